/- The errors of a field that must be small, of weights and of a link, as the program finds them.
Conditions: those written at each theorem. -/
import Derived.Test.YtpfhjdmgkckjfaaGreatDoorAVwC
namespace Go.Proofs.YtpfhjdmgkckjfaaGreatDoor
set_option linter.unusedVariables false
set_option linter.unusedSimpArgs false
set_option maxRecDepth 1000000
open Go.RowKit
open Um Tm Cm

/-- the error of a field that must be small -/
def ltR (a b c : Int) (L : List Q) (r : Int) : Prop := (fldR a b c L r ∧ r ≠ 0) ∨ (fldR a b c L 0 ∧ (∀ x ∈ L, Sm x) ∧ r = 0) ∨ (fldR a b c L 0 ∧ ¬ (∀ x ∈ L, Sm x) ∧ r = 7)
theorem ltR_ex (a b c : Int) (L : List Q) : ∃ r, ltR a b c L r := by
  obtain ⟨r, hr⟩ := fldR_ex a b c L
  by_cases h0 : r = 0
  · subst h0
    by_cases h : ∀ x ∈ L, Sm x
    · exact ⟨0, .inr (.inl ⟨hr, h, rfl⟩)⟩
    · exact ⟨7, .inr (.inr ⟨hr, h, rfl⟩)⟩
  · exact ⟨r, .inl ⟨hr, h0⟩⟩
theorem sm_of {x : Q} {r : Int} (h : NumR x r true) : Sm x := by
  rcases h with ⟨k, hk, h, -⟩ | ⟨-, -, h⟩
  · exact ⟨k, hk, h.symm⟩
  · exact absurd h (by decide)
theorem not_sm {x : Q} {r : Int} (h : NumR x r false) : ¬ Sm x := by
  rcases h with ⟨k, hk, h, -, -, h2⟩ | ⟨h, -⟩
  · exact absurd h2 (by decide)
  · rintro ⟨k, hk, rfl⟩
    exact h k hk rfl
/-- torus.Numbers, as far as its error goes -/
theorem numbersE (a b c r : Int) (ao : Option Addr) (cap : Nat) (L : List Q) (w : World) (h : LiesO w ao L) (hr : ltR a b c L r) (hlen : L.length ≤ 1000000) : Calls Tryz.prog 72 #[.agg #[.int .i64 a, .int .i64 b, .int .i64 c, .slice ao L.length cap]] w fun e w' => ∃ (bo : Option Addr) (n k : Nat), e = .returned (.tuple #[.slice bo n k, .int .i64 r]) ∧ Below w.heap.size w w' := by
  rcases hr with ⟨hr, h0⟩ | ⟨hr, hs, rfl⟩ | ⟨hr, hs, rfl⟩
  · exact (numbers_bad a b c r ao cap L w h hr h0 hlen).mono fun e w' ⟨he, hw⟩ => ⟨none, 0, 0, he, hw⟩
  · obtain ⟨ns, q, hq⟩ := smR_ex L
    refine (numbers_ok a b c ao cap L ns q w h hr hq).mono fun e w' ⟨he, hw⟩ => ?_
    rcases he with ⟨rfl, bo, k, he, -⟩ | ⟨rfl, he⟩
    · exact ⟨bo, _, k, he, hw⟩
    · exfalso
      rcases hq with ⟨hq, -⟩ | ⟨-, -, k, x, hx, hn⟩
      · exact absurd hq (by decide)
      · exact not_sm hn (hs x (List.mem_of_getElem? hx))
  · obtain ⟨ns, q, hq⟩ := smR_ex L
    refine (numbers_ok a b c ao cap L ns q w h hr hq).mono fun e w' ⟨he, hw⟩ => ?_
    rcases he with ⟨rfl, bo, k, he, -⟩ | ⟨rfl, he⟩
    · exfalso
      rcases hq with ⟨-, -, hn⟩ | ⟨hq, -⟩
      · refine hs fun x hx => ?_
        obtain ⟨i, hi⟩ := List.getElem?_of_mem hx
        obtain ⟨n, -, hn⟩ := hn i x (List.getElem?_eq_some_iff.1 hi).1 hi
        exact sm_of hn
      · exact absurd hq (by decide)
    · exact ⟨none, 0, 0, he, hw⟩
theorem ltR_ok {a b c : Int} {L : List Q} (h : ltR a b c L 0) : SmF a b c L := by
  rcases h with ⟨-, h⟩ | ⟨hr, hs, -⟩ | ⟨-, -, h⟩
  · exact absurd rfl h
  · have k := fldR_ok hr
    exact ⟨k.1, k.2.1, hs⟩
  · exact absurd h (by decide)
def ckR (a b c : Int) (L : List Q) (ws : List Int) (r : Int) : Prop := (ltR a b c L r ∧ r ≠ 0) ∨ (ltR a b c L 0 ∧ vwR ws r)
theorem ckR_ex (a b c : Int) (L : List Q) (ws : List Int) : ∃ r, ckR a b c L ws r := by
  obtain ⟨r, hr⟩ := ltR_ex a b c L
  by_cases h0 : r = 0
  · subst h0
    obtain ⟨s, hs⟩ := vwR_ex ws
    exact ⟨s, .inr ⟨hr, hs⟩⟩
  · exact ⟨r, .inl ⟨hr, h0⟩⟩
set_option maxHeartbeats 1600000 in
theorem checkWeighted_any (a b c w0 w1 w2 w3 w4 r : Int) (ao : Option Addr) (cap : Nat) (L : List Q) (w : World) (h : LiesO w ao L) (hr : ckR a b c L [w0, w1, w2, w3, w4] r) (hlen : L.length ≤ 1000000) : Calls Tryz.prog 77 #[.agg #[.int .i64 a, .int .i64 b, .int .i64 c, .slice ao L.length cap], .agg #[.int .i64 w0, .int .i64 w1, .int .i64 w2, .int .i64 w3, .int .i64 w4]] w fun e w' => e = .returned (.int .i64 r) ∧ Below w.heap.size w w' := by
  have A1 : Below w.heap.size w ((w.alloc (.cells #[.int .i64 a, .int .i64 b, .int .i64 c, .slice ao L.length cap] 25)).alloc (.cells #[.int .i64 w0, .int .i64 w1, .int .i64 w2, .int .i64 w3, .int .i64 w4] 26)) := by repeat (first | (with_reducible exact Below.refl _ _) | (with_reducible refine Below.setCell ?_ ?_ _) | (with_reducible refine Below.drew ?_) | (with_reducible refine Below.alloc ?_ ?_ _) | omega | (simp <;> omega))
  have h1 := Lib.hid (h.later A1)
  rcases hr with ⟨hr, h0⟩ | ⟨hr, hv⟩
  · have c1 := fun (W : World) h => numbersE a b c r ao cap L W h hr hlen
    have h0' : (r != 0) = true := by simpa using h0
    have h0'' : (r == 0) = false := by simpa using h0
    clear h hr h0 A1
    go_enter Tryz.func77, Tryz.ntmps77
    go_wp2_with ((with_reducible refine (c1 _ h1.out).mono ?_); clear c1; rintro e w5 ⟨bo, n, k, rfl, hw5⟩)
    go_ret
    exact ⟨rfl, by repeat (first | (with_reducible exact Below.refl _ _) | (with_reducible refine Below.setCell ?_ ?_ _) | (with_reducible refine Below.drew ?_) | (with_reducible refine Below.alloc ?_ ?_ _) | (with_reducible refine Below.trans ?_ (Below.mono hw5 ?_)) | (with_reducible exact hw5.size) | omega | (simp <;> omega) | (simp <;> (have s := hw5.size; omega)) | (have s0 := hw5.size; (try simp at s0); (try simp); omega))⟩
  · have c1 := fun (W : World) h => numbersE a b c 0 ao cap L W h hr hlen
    have c2 := fun (W : World) => vw_any w0 w1 w2 w3 w4 r W hv
    clear h hr hv A1
    go_enter Tryz.func77, Tryz.ntmps77
    go_wp2_with (first | ((with_reducible refine (c1 _ h1.out).mono ?_); clear c1; rintro e w5 ⟨bo, n, k, rfl, hw5⟩; have hc5 := Tail.cells hw5; have zw50 := Nat.lt_of_lt_of_le (n := w.heap.size) (by simp <;> omega) hw5.size; have zw51 := Nat.lt_of_lt_of_le (n := w.heap.size + 1) (by simp <;> omega) hw5.size) | ((with_reducible refine (c2 _).mono ?_); clear c2; rintro e w6 ⟨rfl, hw6⟩))
    go_ret
    exact ⟨rfl, by repeat (first | (with_reducible exact Below.refl _ _) | (with_reducible refine Below.setCell ?_ ?_ _) | (with_reducible refine Below.drew ?_) | (with_reducible refine Below.alloc ?_ ?_ _) | (with_reducible refine Below.trans ?_ (Below.mono hw6 ?_)) | (with_reducible refine Below.trans ?_ (Below.mono hw5 ?_)) | (with_reducible exact hw6.size) | (with_reducible exact hw5.size) | omega | (simp <;> omega) | (simp <;> (have s := hw6.size; omega)) | (simp <;> (have s := hw5.size; omega)) | (have s0 := hw6.size; (try simp at s0); have s1 := hw5.size; (try simp at s1); (try simp); omega))⟩
def clR (a b c : Int) (L : List Q) (ws : List Int) (l r : Int) : Prop := (ckR a b c L ws r ∧ r ≠ 0) ∨ (ckR a b c L ws 0 ∧ ((0 ≤ l ∧ l < L.length ∧ r = 0) ∨ (¬ (0 ≤ l ∧ l < L.length) ∧ r = 4)))
end Go.Proofs.YtpfhjdmgkckjfaaGreatDoor
