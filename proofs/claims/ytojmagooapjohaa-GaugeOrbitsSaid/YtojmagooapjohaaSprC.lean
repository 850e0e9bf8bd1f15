/- The same unit at each site, and which lists have small numbers, as the program and the law find it.
Conditions: those written at each theorem. -/
import Derived.Test.YtojmagooapjohaaGauC
import Derived.Test.YtojmagooapjohaaHkM
import Derived.Test.YtojmagooapjohaaGauD
namespace Go.Proofs.Ytojmagooapjohaa
set_option linter.unusedVariables false
set_option linter.unusedSimpArgs false
set_option maxRecDepth 1000000
open Go.RowKit
open Um Tm

set_option maxHeartbeats 1600000 in
theorem spr_ok (a b c : Int) (bl off cap N : Nat) (L : List Q) (x : Q) (w : World) (h : Lies w bl off L) (hF : fldR a b c L 0) (hN : (N : Int) = a * b * c) (hx : Sm2 x) : Calls Try.prog 14 #[.agg #[.int .i64 a, .int .i64 b, .int .i64 c, .slice (some ⟨bl, off, none⟩) L.length cap], .agg #[.int .i64 x.a, .int .i64 x.b, .int .i64 x.c, .int .i64 x.d, .int .i64 x.n]] w fun e w' => (∃ g k : Nat, e = .returned (.tuple #[.slice (some ⟨g, 0, none⟩) N k, .int .i64 0]) ∧ LBox w' g (List.replicate N x) ∧ w.heap.size ≤ g) ∧ Below w.heap.size w w' := by
  have hz := (fldR_ok hF).1
  have hn := (fldR_ok hF).2.1
  obtain ⟨-, -, p3, -⟩ := mul_rng hz.a1 hz.a4 hz.b1 hz.b4 hz.c1 hz.c4
  have hp := hz.p
  have c1 := fun (W : World) (h : Lies W bl off L) => validateF_any a b c 0 (some ⟨bl, off, none⟩) cap L W (.inr ⟨bl, off, rfl, h⟩) hF (by omega)
  have c2 := fun W : World => validate_ok x W hx.1
  have c3 := fun (W : World) (g : Nat) (h : Lies W g 0 [x]) => repeat_any g x N W h (by omega) (by omega)
  have c4 : ∀ (W : World) (g : Nat), Lies W g 0 (List.replicate N x) → Calls Try.prog 40 #[.slice (some ⟨g, 0, none⟩) N N] W fun e w' => e = .returned (.tuple #[.slice (some ⟨g, 0, none⟩) N N, .int .i64 0]) ∧ Below W.heap.size W w' := fun W g h => by
    have hl : (List.replicate N x).length = N := List.length_replicate
    have := limited_any g 0 N (List.replicate N x) W h (by omega)
    rw [hl] at this
    exact this.mono fun e w' ⟨k, hw⟩ => ⟨by
      rcases k with ⟨_, k⟩ | ⟨k, _⟩
      · exact k
      · exact absurd (fun i y hy => by
          have := List.mem_of_getElem? hy
          rw [(List.mem_replicate.1 this).2]; have := hx.2; omega) k, hw⟩
  have H := Lib.hid h
  have hq : ((L.length : Int)).tdiv 3 = (N : Int) := by rw [Int.tdiv_eq_ediv_of_nonneg (by omega)]; omega
  have hq2 : IntKind.i64.wrap ((L.length : Int).tdiv 3) = (N : Int) := by rw [hq, IntKind.wrap_i64]; omega
  have hq3 : IntKind.i64.wrap ((L.length : Int) / 3) = (N : Int) := by rw [IntKind.wrap_i64]; omega
  have hq4 : (L.length : Int) / 3 = (N : Int) := by omega
  have hq6 : wrap64 (N : Int) = (N : Int) := by unfold wrap64; omega
  have hq5 : wrap64 ((L.length : Int).tdiv 3) = (N : Int) := by rw [hq, wrap64]; omega
  clear h hF hN hx hz hn p3 hp
  go_enter Try.func14, Try.ntmps14
  go_wp2_with (fail)
  refine (c1 _ (H.out.later ba2)).mono ?_
  rintro e w1 ⟨rfl, hw1⟩
  have B1 := Lib.hid (bel2 hw1)
  have hc1 := Tail.cells hw1
  have zw10 := Nat.lt_of_lt_of_le (n := w.heap.size) (by simp <;> omega) hw1.size; have zw11 := Nat.lt_of_lt_of_le (n := w.heap.size + 1) (by simp <;> omega) hw1.size
  clear hw1 c1
  go_wp2_with (fail)
  refine (c2 _).mono ?_
  rintro e w2 ⟨rfl, hw2⟩
  have B2 := Lib.hid (B1.out.trans (hw2.mono B1.out.size))
  have hc2 := Tail.cells hw2
  have z20 := Nat.lt_of_lt_of_le zw10 hw2.size
  have z21 := Nat.lt_of_lt_of_le zw11 hw2.size
  clear hw2 c2 B1
  go_wp2_with (fail)
  refine (c3 _ _ lies1n).mono ?_
  rintro e w3 ⟨⟨g, rfl, hk, hg⟩, hw3⟩
  have B3 := Lib.hid (B2.out.trans ((bel1 hw3).mono B2.out.size))
  have HK := Lib.hid hk
  have hg' : w.heap.size ≤ g := by simp at hg; omega
  clear hw3 c3 hk hg hc1 hc2
  go_wp2_with (fail)
  refine (c4 _ _ HK.out.lies).mono ?_
  rintro e w4 ⟨rfl, hw4⟩
  have B4 := Lib.hid (B3.out.trans (hw4.mono B3.out.size))
  have HK4 := Lib.hid (HK.out.box.later hw4)
  clear hw4 c4 B3 HK
  go_wp2
  go_ret2
  exact ⟨⟨g, N, rfl, HK4.out, hg'⟩, B4.out⟩
/-! ### small numbers -/
/-- all N are 1 or 2 -/
def N12L (G : List Q) : Prop := ∀ (i : Nat) (x : Q), G[i]? = some x → 1 ≤ x.n ∧ x.n ≤ 2
set_option maxHeartbeats 1600000 in
theorem small4_any (ao : Option Addr) (cap : Nat) (G : List Q) (d : Bool) (w : World) (h : LiesO w ao G) (hlen : G.length ≤ 1000000) (hd : (N12L G ∧ d = true) ∨ (¬ N12L G ∧ d = false)) : Calls Try.prog 10 #[.slice ao G.length cap] w fun e w' => e = .returned (.bool d) ∧ Below w.heap.size w w' := by
  have H := Lib.hid h
  have HD := Lib.hid hd
  clear h hd
  go_enter Try.func10, Try.ntmps10
  go_wp2
  go_loopw [3] (fun q wr => ∃ i : Nat, i ≤ G.length ∧ q = .int .i64 i ∧ Hid (∀ (j : Nat) (x : Q), j < i → G[j]? = some x → 1 ≤ x.n ∧ x.n ≤ 2) ∧ Hid (Below w.heap.size w wr)) (fun q _ => G.length - (intOf q).toNat)
  case atStart => exact ⟨0, by omega, rfl, Lib.hid (fun j x hj => by omega), Lib.hid (Below.refl _ _)⟩
  case round =>
    obtain ⟨i, hi, rfl, HS, HB⟩ := hrel
    by_cases hlt : i < G.length
    · have ii : (i : Int) < (G.length : Int) := by omega
      have hx := List.getElem?_eq_getElem hlt
      generalize G[i] = x at *
      obtain ⟨bl, off, rfl, hl⟩ : ∃ b f, ao = some ⟨b, f, none⟩ ∧ Lies w b f G := by
        rcases H.out with h | h
        · rw [h] at hlt; exact absurd hlt (by simp)
        · exact h
      obtain ⟨c0, c1, c2, c3, c4⟩ := (hl.later HB.out) i x hx
      have lb := World.block_lt_of_cell? _ _ c4
      by_cases h1 : x.n < 1
      · have hno : d = false := by
          rcases HD.out with ⟨h, _⟩ | ⟨_, h⟩
          · have := (h i x hx).1; omega
          · exact h
        have j1 : decide (x.n < 1) = true := by simpa using h1
        subst hno
        clear hx hl
        go_wp2
        go_ret
        exact ⟨rfl, HB.out⟩
      · by_cases h2 : x.n > 2
        · have hno : d = false := by
            rcases HD.out with ⟨h, _⟩ | ⟨_, h⟩
            · have := (h i x hx).2; omega
            · exact h
          subst hno
          clear hx hl
          go_wp2
          go_ret
          exact ⟨rfl, HB.out⟩
        · have HS2 : Hid (∀ (j : Nat) (x : Q), j < i + 1 → G[j]? = some x → 1 ≤ x.n ∧ x.n ≤ 2) := Lib.hid (fun j y hj hy => by
            by_cases hji : j = i
            · subst hji; rw [hx] at hy; cases hy; omega
            · exact HS.out j y (by omega) hy)
          clear hx hl
          go_wp2
          exact ⟨⟨i + 1, by omega, by go_num, HS2, HB⟩, by simp [intOf]; omega⟩
    · obtain rfl : i = G.length := by omega
      have hyes : d = true := by
        rcases HD.out with ⟨_, h⟩ | ⟨h, _⟩
        · exact h
        · exact absurd (fun j x hx => HS.out j x (List.getElem?_eq_some_iff.1 hx).1 hx) h
      subst hyes
      go_wp2
      go_ret
      exact ⟨rfl, HB.out⟩
end Go.Proofs.Ytojmagooapjohaa
