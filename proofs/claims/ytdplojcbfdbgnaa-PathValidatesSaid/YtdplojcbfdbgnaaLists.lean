/- Lists of units: which are valid, one by one, as the program finds it.
Conditions: the list lies in memory as it is written at each theorem. -/
import Derived.Test.YtdplojcbfdbgnaaValid
namespace Go.Proofs.Ytdplojcbfdbgnaa
set_option linter.unusedVariables false
set_option linter.unusedSimpArgs false
open Go.RowKit
open Um

/-- A list of units lies at a place of memory, five cells a unit. -/
def Lies (w : World) (b off : Nat) (L : List Q) : Prop := ∀ (i : Nat) (x : Q), L[i]? = some x →
  w.cell? ⟨b, off + i * 5, none⟩ = some (.int .i64 x.a) ∧ w.cell? ⟨b, off + i * 5 + 1, none⟩ = some (.int .i64 x.b) ∧ w.cell? ⟨b, off + i * 5 + 2, none⟩ = some (.int .i64 x.c) ∧ w.cell? ⟨b, off + i * 5 + 3, none⟩ = some (.int .i64 x.d) ∧ w.cell? ⟨b, off + i * 5 + 4, none⟩ = some (.int .i64 x.n)

theorem Lies.later {w w1 : World} {b off : Nat} {L : List Q} (h : Lies w b off L) (hb : Below w.heap.size w w1) : Lies w1 b off L := fun i x hx => by
  have f := h i x hx
  have g : ∀ a : Addr, ∀ v : Value, w.cell? a = some v → w1.cell? a = some v := fun a v hv => by rw [hb.cell (World.block_lt_of_cell? w a hv)]; exact hv
  exact ⟨g _ _ f.1, g _ _ f.2.1, g _ _ f.2.2.1, g _ _ f.2.2.2.1, g _ _ f.2.2.2.2⟩

/-- the error of the first unit that is not valid -/
def vAll (L : List Q) (r : Int) : Prop := ((∀ x ∈ L, V x) ∧ r = 0) ∨ ((∃ x ∈ L, ¬ V x) ∧ r = 1)

set_option maxHeartbeats 800000 in
theorem validateAll_any (b off cap : Nat) (L : List Q) (w : World) (r : Int) (hL : Lies w b off L) (hlen : L.length ≤ 1152921504606846976) (hr : vAll L r) :
    Calls Try.prog 141 #[.slice (some ⟨b, off, none⟩) L.length cap] w fun e w' => e = .returned (.int .i64 r) ∧ Below w.heap.size w w' := by
  go_enter Try.func141, Try.ntmps141
  go_wp2
  go_loopw [4, 5, 8] (fun _ _ q wr => ∃ k : Nat, k ≤ L.length ∧ q = .int .i64 k ∧ (∀ i x, i < k → L[i]? = some x → V x) ∧ Below w.heap.size w wr) (fun _ _ q _ => L.length - (intOf q).toNat)
  case atStart => exact ⟨0, by omega, rfl, by omega, Below.refl _ _⟩
  case round =>
    obtain ⟨k, hk, rfl, hall, hb⟩ := hrel
    by_cases hlt : k < L.length
    · have hx : L[k]? = some L[k] := List.getElem?_eq_getElem hlt
      obtain ⟨c0, c1, c2, c3, c4⟩ := hL.later hb k _ hx
      generalize hX : L[k] = x at *
      have HX := Lib.hid hX
      have HX2 := Lib.hid hx
      have HA := Lib.hid hall
      clear hX hx hall
      by_cases hv : V x
      · go_wp2_with (go_at_call 51; refine (validate_ok _ _ hv).mono ?_; rintro e w1 ⟨rfl, hw1⟩)
        exact ⟨⟨k + 1, by omega, by go_num, fun i y hi hy => by
          rcases Nat.lt_or_ge i k with h1 | h1
          · exact HA.out i y h1 hy
          · obtain rfl : i = k := by omega
            have e := HX2.out.symm.trans hy
            simp only [Option.some.injEq] at e
            rw [← e]
            exact hv, by repeat (first | (with_reducible exact Below.refl _ _) | (with_reducible refine Below.setCell ?_ ?_ _) | (with_reducible refine Below.drew ?_) | (with_reducible refine Below.alloc ?_ ?_ _) | (with_reducible refine Below.trans ?_ (Below.mono hw1 ?_)) | (with_reducible refine Below.trans ?_ (Below.mono hb ?_)) | (with_reducible exact hw1.size) | (with_reducible exact hb.size) | omega | (simp <;> omega) | (simp <;> (have s := hw1.size; omega)) | (simp <;> (have s := hb.size; omega)) | (have s0 := hw1.size; (try simp at s0); have s1 := hb.size; (try simp at s1); (try simp); omega))⟩, by simp [intOf]; omega⟩
      · have h1 : r = 1 := by
          rcases hr with h | h
          · exact absurd (h.1 x (HX.out ▸ List.getElem_mem hlt)) hv
          · exact h.2
        subst h1
        go_wp2_with (go_at_call 51; refine (validate_bad _ _ hv).mono ?_; rintro e w1 ⟨rfl, hw1⟩)
        go_ret
        exact ⟨rfl, by repeat (first | (with_reducible exact Below.refl _ _) | (with_reducible refine Below.setCell ?_ ?_ _) | (with_reducible refine Below.drew ?_) | (with_reducible refine Below.alloc ?_ ?_ _) | (with_reducible refine Below.trans ?_ (Below.mono hw1 ?_)) | (with_reducible refine Below.trans ?_ (Below.mono hb ?_)) | (with_reducible exact hw1.size) | (with_reducible exact hb.size) | omega | (simp <;> omega) | (simp <;> (have s := hw1.size; omega)) | (simp <;> (have s := hb.size; omega)) | (have s0 := hw1.size; (try simp at s0); have s1 := hb.size; (try simp at s1); (try simp); omega))⟩
    · obtain rfl : k = L.length := by omega
      have h0 : r = 0 := by
        rcases hr with h | ⟨⟨x, hx, hv⟩, _⟩
        · exact h.2
        · obtain ⟨i, hi, rfl⟩ := List.getElem_of_mem hx
          exact absurd (hall i _ hi (List.getElem?_eq_getElem hi)) hv
      subst h0
      clear hall
      go_wp2
      go_ret
      exact ⟨rfl, hb⟩

theorem validate2_any (b cap : Nat) (x y : Q) (w : World) (r : Int) (hr : vAll [x, y] r)
    (a0 : w.cell? ⟨b, 0, none⟩ = some (.int .i64 x.a)) (a1 : w.cell? ⟨b, 1, none⟩ = some (.int .i64 x.b)) (a2 : w.cell? ⟨b, 2, none⟩ = some (.int .i64 x.c)) (a3 : w.cell? ⟨b, 3, none⟩ = some (.int .i64 x.d)) (a4 : w.cell? ⟨b, 4, none⟩ = some (.int .i64 x.n))
    (a5 : w.cell? ⟨b, 5, none⟩ = some (.int .i64 y.a)) (a6 : w.cell? ⟨b, 6, none⟩ = some (.int .i64 y.b)) (a7 : w.cell? ⟨b, 7, none⟩ = some (.int .i64 y.c)) (a8 : w.cell? ⟨b, 8, none⟩ = some (.int .i64 y.d)) (a9 : w.cell? ⟨b, 9, none⟩ = some (.int .i64 y.n)) :
    Calls Try.prog 141 #[.slice (some ⟨b, 0, none⟩) 2 cap] w fun e w' => e = .returned (.int .i64 r) ∧ Below w.heap.size w w' :=
  validateAll_any b 0 cap [x, y] w r (fun i z hz => by
    match i, hz with
    | 0, hz => simp only [List.getElem?_cons_zero, Option.some.injEq] at hz; subst hz; exact ⟨a0, a1, a2, a3, a4⟩
    | 1, hz => simp only [List.getElem?_cons_succ, List.getElem?_cons_zero, Option.some.injEq] at hz; subst hz; exact ⟨a5, a6, a7, a8, a9⟩
    | n + 2, hz => simp at hz) (by simp) hr
end Go.Proofs.Ytdplojcbfdbgnaa
