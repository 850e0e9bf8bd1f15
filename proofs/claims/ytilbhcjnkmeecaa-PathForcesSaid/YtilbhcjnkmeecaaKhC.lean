/- The force on a link of a field, and a trajectory's beginning, on both sides.
Conditions: those written at each theorem. -/
import Derived.Test.YtilbhcjnkmeecaaKgC
import Derived.Test.YtilbhcjnkmeecaaKsC
namespace Go.Proofs.Ytilbhcjnkmeecaa
set_option linter.unusedVariables false
set_option linter.unusedSimpArgs false
set_option maxRecDepth 1000000
open Go.RowKit
open Um Tm Cm Km

/-- what a force answers -/
def frR (a b c : Int) (L : List Q) (r0 : Int) (i : Int) (x y z r : Int) : Prop := (r0 ≠ 0 ∧ x = 0 ∧ y = 0 ∧ z = 0 ∧ r = r0) ∨ (r0 = 0 ∧ ¬ (0 ≤ i ∧ i < (L.length : Int)) ∧ x = 0 ∧ y = 0 ∧ z = 0 ∧ r = 4) ∨ (r0 = 0 ∧ 0 ≤ i ∧ i < (L.length : Int) ∧ x = (frc a b c L i.toNat).a ∧ y = (frc a b c L i.toNat).b ∧ z = (frc a b c L i.toNat).c ∧ r = 0)
theorem frR_ex (a b c : Int) (L : List Q) (r0 i : Int) : ∃ x y z r, frR a b c L r0 i x y z r := by
  by_cases h : r0 = 0
  · by_cases hi : 0 ≤ i ∧ i < (L.length : Int)
    · exact ⟨_, _, _, _, .inr (.inr ⟨h, hi.1, hi.2, rfl, rfl, rfl, rfl⟩)⟩
    · exact ⟨_, _, _, _, .inr (.inl ⟨h, hi, rfl, rfl, rfl, rfl⟩)⟩
  · exact ⟨_, _, _, _, .inl ⟨h, rfl, rfl, rfl, rfl⟩⟩
set_option maxHeartbeats 3200000 in
theorem force_any (a b c r0 i x y z r : Int) (ao : Option Addr) (cap : Nat) (L : List Q) (ns : List Int) (w : World) (h : LiesO w ao L) (hr : numsR a b c L ns r0) (hf : frR a b c L r0 i x y z r) (hlen : L.length ≤ 1000000) : Calls Try.prog 25 #[.agg #[.int .i64 a, .int .i64 b, .int .i64 c, .slice ao L.length cap], .int .i64 i] w fun e w' => e = .returned (.tuple #[.agg #[.int .i64 x, .int .i64 y, .int .i64 z], .int .i64 r]) ∧ Below w.heap.size w w' := by
  have H := Lib.hid h
  rcases hf with ⟨h0, rfl, rfl, rfl, rfl⟩ | ⟨rfl, hi, rfl, rfl, rfl, rfl⟩ | ⟨rfl, hi0, hi1, rfl, rfl, rfl, rfl⟩
  · have c1 := fun (W : World) (h : LiesO W ao L) => resting_bad a b c r ao cap L ns W h hr h0 hlen
    have h0' : (r != 0) = true := by simpa using h0
    clear h hr h0
    go_enter Try.func25, Try.ntmps25
    go_wp2_with ((with_reducible refine (c1 _ (H.out.later (by repeat (first | (with_reducible exact Below.refl _ _) | (with_reducible refine Below.setCell ?_ ?_ _) | (with_reducible refine Below.drew ?_) | (with_reducible refine Below.alloc ?_ ?_ _) | omega | (simp <;> omega))))).mono ?_); clear c1; rintro e w1 ⟨rfl, hw1⟩; have hc1 := Tail.cells hw1; have s1 := hw1.size; simp at s1; have z1 : w.heap.size + 1 < w1.heap.size := (by omega); have z2 : w.heap.size < w1.heap.size := (by omega); clear s1)
    refine bodyPost_ret (v := .tuple #[.agg #[.int .i64 0, .int .i64 0, .int .i64 0], .int .i64 r]) ?_ rfl ⟨rfl, ?_⟩
    · simp [results, Try.results25, go_sem, hc1, z1, z2]
    · repeat (first | (with_reducible exact Below.refl _ _) | (with_reducible refine Below.setCell ?_ ?_ _) | (with_reducible refine Below.drew ?_) | (with_reducible refine Below.alloc ?_ ?_ _) | (with_reducible refine Below.trans ?_ (Below.mono hw1 ?_)) | (with_reducible exact hw1.size) | omega | (simp <;> omega) | (simp <;> (have s := hw1.size; omega)) | (have s0 := hw1.size; (try simp at s0); (try simp); omega))
  · obtain ⟨hfl, hq, hS⟩ := numsR_smR hr
    obtain ⟨bl, off, rfl, h2⟩ := fld_some hfl h
    obtain ⟨N, hN⟩ := Int.eq_ofNat_of_zero_le (show 0 ≤ a * b * c by obtain ⟨-, -, p3, -⟩ := mul_rng (fldR_ok hfl).1.a1 (fldR_ok hfl).1.a4 (fldR_ok hfl).1.b1 (fldR_ok hfl).1.b4 (fldR_ok hfl).1.c1 (fldR_ok hfl).1.c4; omega)
    have H2 := Lib.hid h2
    have c1 := fun (W : World) (h : Lies W bl off L) => resting_ok a b c bl off cap L.length N L W h hfl hS rfl hN.symm hq
    have c2 := fun W : World => pWithin_any i 0 ((L.length : Int) - 1) W false (.inr ⟨by omega, rfl⟩)
    clear h h2 hr hS hq hfl hN hi H
    go_enter Try.func25, Try.ntmps25
    go_wp2_with (first | ((with_reducible refine (c1 _ (H2.out.later (by repeat (first | (with_reducible exact Below.refl _ _) | (with_reducible refine Below.setCell ?_ ?_ _) | (with_reducible refine Below.drew ?_) | (with_reducible refine Below.alloc ?_ ?_ _) | omega | (simp <;> omega))))).mono ?_); clear c1; rintro e w1 ⟨⟨B, gl, gx, gp, kl, kx, rfl, hCO, -⟩, hw1⟩; have hc1 := Tail.cells hw1; have s1 := hw1.size; simp at s1; have z1 : w.heap.size + 1 < w1.heap.size := (by omega); have z2 : w.heap.size < w1.heap.size := (by omega); clear s1 hCO) | ((with_reducible refine (c2 _).mono ?_); clear c2; rintro e w2 ⟨rfl, rfl⟩))
    refine bodyPost_ret (v := .tuple #[.agg #[.int .i64 0, .int .i64 0, .int .i64 0], .int .i64 4]) ?_ rfl ⟨rfl, ?_⟩
    · simp [results, Try.results25, go_sem, hc1, z1, z2]
    · repeat (first | (with_reducible exact Below.refl _ _) | (with_reducible refine Below.setCell ?_ ?_ _) | (with_reducible refine Below.drew ?_) | (with_reducible refine Below.alloc ?_ ?_ _) | (with_reducible refine Below.trans ?_ (Below.mono hw1 ?_)) | (with_reducible exact hw1.size) | omega | (simp <;> omega) | (simp <;> (have s := hw1.size; omega)) | (have s0 := hw1.size; (try simp at s0); (try simp); omega))
  · obtain ⟨hfl, hq, hS⟩ := numsR_smR hr
    obtain ⟨bl, off, rfl, h2⟩ := fld_some hfl h
    obtain ⟨N, hN⟩ := Int.eq_ofNat_of_zero_le (show 0 ≤ a * b * c by obtain ⟨-, -, p3, -⟩ := mul_rng (fldR_ok hfl).1.a1 (fldR_ok hfl).1.a4 (fldR_ok hfl).1.b1 (fldR_ok hfl).1.b4 (fldR_ok hfl).1.c1 (fldR_ok hfl).1.c4; omega)
    obtain ⟨k, rfl⟩ := Int.eq_ofNat_of_zero_le hi0
    have H2 := Lib.hid h2
    have c1 := fun (W : World) (h : Lies W bl off L) => resting_ok a b c bl off cap L.length N L W h hfl hS rfl hN.symm hq
    have c2 := fun W : World => pWithin_any (k : Int) 0 ((L.length : Int) - 1) W true (.inl ⟨by omega, by omega, rfl⟩)
    have c3 := fun (W : World) (m B gl gx gp kl kx : Nat) (hC : CO a b c L.length N W m B gl gx gp kl kx L) => forceC_any a b c L.length N W m B gl gx gp kl kx L k hC (fldR_Fl hfl) hS rfl hN.symm (by omega)
    rw [show ((k : Int)).toNat = k by omega]
    generalize (frc a b c L k).a = x at *
    generalize (frc a b c L k).b = y at *
    generalize (frc a b c L k).c = z at *
    clear h h2 hr hS hq hfl hN H
    go_enter Try.func25, Try.ntmps25
    go_wp2_with (first | ((with_reducible refine (c1 _ (H2.out.later (by repeat (first | (with_reducible exact Below.refl _ _) | (with_reducible refine Below.setCell ?_ ?_ _) | (with_reducible refine Below.drew ?_) | (with_reducible refine Below.alloc ?_ ?_ _) | omega | (simp <;> omega))))).mono ?_); clear c1; rintro e w1 ⟨⟨B, gl, gx, gp, kl, kx, rfl, hCO, -⟩, hw1⟩; have HCO := Lib.hid hCO; have hc1 := Tail.cells hw1; have s1 := hw1.size; simp at s1; have z1 : w.heap.size + 1 < w1.heap.size := (by omega); have z2 : w.heap.size < w1.heap.size := (by omega); have hmp := hCO.mp; simp at hmp; have b1 : Below w.heap.size w w1 := (by repeat (first | (with_reducible exact Below.refl _ _) | (with_reducible refine Below.setCell ?_ ?_ _) | (with_reducible refine Below.drew ?_) | (with_reducible refine Below.alloc ?_ ?_ _) | (with_reducible refine Below.trans ?_ (Below.mono hw1 ?_)) | (with_reducible exact hw1.size) | omega | (simp <;> omega) | (simp <;> (have s := hw1.size; omega)) | (have s0 := hw1.size; (try simp at s0); (try simp); omega))); have T1 := Lib.hid (⟨by simp [go_sem, hc1, z1], by simp [go_sem, hc1, z1], by simp [go_sem, hc1, z1], fun j => by simp [go_sem, hc1, z1], z1⟩ : T3 w1 (w.heap.size + 1) 0 0 0); clear s1 hCO) | ((with_reducible refine (c2 _).mono ?_); clear c2; rintro e w2 ⟨rfl, rfl⟩) | ((with_reducible refine (c3 _ _ _ _ _ _ _ _ HCO.out).mono ?_); clear c3; rintro e w3 ⟨rfl, hg3, -⟩; obtain ⟨q0, q1, q2, qf, ql⟩ := T1.out.far hg3 (by simp; omega)))
    have b3 : Below w.heap.size w w3 := b1.grown hg3 b1.size (fun j hj => by simp at hj; omega)
    refine bodyPost_ret (v := .tuple #[.agg #[.int .i64 x, .int .i64 y, .int .i64 z], .int .i64 0]) (by simp [results, Try.results25, go_sem, q0, q1, q2, qf, ql]) rfl ⟨rfl, ?_⟩
    repeat (first | (with_reducible exact Below.refl _ _) | (with_reducible refine Below.setCell ?_ ?_ _) | (with_reducible refine Below.drew ?_) | (with_reducible refine Below.alloc ?_ ?_ _) | (with_reducible refine Below.trans ?_ (Below.mono b3 ?_)) | (with_reducible exact b3.size) | omega | (simp <;> omega) | (simp <;> (have s := b3.size; omega)) | (have s0 := b3.size; (try simp at s0); (try simp); omega))
set_option maxHeartbeats 3200000 in
theorem refForce_any (a b c r0 i x y z r : Int) (ao : Option Addr) (cap : Nat) (L : List Q) (ns : List Int) (w : World) (h : LiesO w ao L) (hr : numsR a b c L ns r0) (hf : frR a b c L r0 i x y z r) (hlen : L.length ≤ 1000000) : Calls Try.prog 26 #[.agg #[.int .i64 a, .int .i64 b, .int .i64 c, .slice ao L.length cap], .int .i64 i] w fun e w' => e = .returned (.tuple #[.agg #[.int .i64 x, .int .i64 y, .int .i64 z], .int .i64 r]) ∧ Below w.heap.size w w' := by
  have H := Lib.hid h
  have c1 := fun (W : World) (h : LiesO W ao L) => small6_any a b c r0 ao cap L ns W h hr hlen
  rcases hf with ⟨h0, rfl, rfl, rfl, rfl⟩ | ⟨rfl, hi, rfl, rfl, rfl, rfl⟩ | ⟨rfl, hi0, hi1, rfl, rfl, rfl, rfl⟩
  · have h0' : (r != 0) = true := by simpa using h0
    clear h hr h0
    go_enter Try.func26, Try.ntmps26
    go_wp2_with ((with_reducible refine (c1 _ (H.out.later (by repeat (first | (with_reducible exact Below.refl _ _) | (with_reducible refine Below.setCell ?_ ?_ _) | (with_reducible refine Below.drew ?_) | (with_reducible refine Below.alloc ?_ ?_ _) | omega | (simp <;> omega))))).mono ?_); clear c1; rintro e w1 ⟨rfl, hw1⟩; have hc1 := Tail.cells hw1; have s1 := hw1.size; simp at s1; have z1 : w.heap.size + 1 < w1.heap.size := (by omega); have z2 : w.heap.size < w1.heap.size := (by omega); clear s1)
    refine bodyPost_ret (v := .tuple #[.agg #[.int .i64 0, .int .i64 0, .int .i64 0], .int .i64 r]) ?_ rfl ⟨rfl, ?_⟩
    · simp [results, Try.results26, go_sem, hc1, z1, z2]
    · repeat (first | (with_reducible exact Below.refl _ _) | (with_reducible refine Below.setCell ?_ ?_ _) | (with_reducible refine Below.drew ?_) | (with_reducible refine Below.alloc ?_ ?_ _) | (with_reducible refine Below.trans ?_ (Below.mono hw1 ?_)) | (with_reducible exact hw1.size) | omega | (simp <;> omega) | (simp <;> (have s := hw1.size; omega)) | (have s0 := hw1.size; (try simp at s0); (try simp); omega))
  · clear h hr
    by_cases hi0 : i < 0
    · clear hi
      go_enter Try.func26, Try.ntmps26
      go_wp2_with ((with_reducible refine (c1 _ (H.out.later (by repeat (first | (with_reducible exact Below.refl _ _) | (with_reducible refine Below.setCell ?_ ?_ _) | (with_reducible refine Below.drew ?_) | (with_reducible refine Below.alloc ?_ ?_ _) | omega | (simp <;> omega))))).mono ?_); clear c1; rintro e w1 ⟨rfl, hw1⟩; have hc1 := Tail.cells hw1; have s1 := hw1.size; simp at s1; have z1 : w.heap.size + 1 < w1.heap.size := (by omega); have z2 : w.heap.size < w1.heap.size := (by omega); clear s1)
      refine bodyPost_ret (v := .tuple #[.agg #[.int .i64 0, .int .i64 0, .int .i64 0], .int .i64 4]) ?_ rfl ⟨rfl, ?_⟩
      · simp [results, Try.results26, go_sem, hc1, z1, z2]
      · repeat (first | (with_reducible exact Below.refl _ _) | (with_reducible refine Below.setCell ?_ ?_ _) | (with_reducible refine Below.drew ?_) | (with_reducible refine Below.alloc ?_ ?_ _) | (with_reducible refine Below.trans ?_ (Below.mono hw1 ?_)) | (with_reducible exact hw1.size) | omega | (simp <;> omega) | (simp <;> (have s := hw1.size; omega)) | (have s0 := hw1.size; (try simp at s0); (try simp); omega))
    · have hi1 : ¬ i < (L.length : Int) := by omega
      have hi2 : (L.length : Int) ≤ i := by omega
      have hi3 : 0 ≤ i := by omega
      clear hi
      go_enter Try.func26, Try.ntmps26
      go_wp2_with ((with_reducible refine (c1 _ (H.out.later (by repeat (first | (with_reducible exact Below.refl _ _) | (with_reducible refine Below.setCell ?_ ?_ _) | (with_reducible refine Below.drew ?_) | (with_reducible refine Below.alloc ?_ ?_ _) | omega | (simp <;> omega))))).mono ?_); clear c1; rintro e w1 ⟨rfl, hw1⟩; have hc1 := Tail.cells hw1; have s1 := hw1.size; simp at s1; have z1 : w.heap.size + 1 < w1.heap.size := (by omega); have z2 : w.heap.size < w1.heap.size := (by omega); clear s1)
      refine bodyPost_ret (v := .tuple #[.agg #[.int .i64 0, .int .i64 0, .int .i64 0], .int .i64 4]) ?_ rfl ⟨rfl, ?_⟩
      · simp [results, Try.results26, go_sem, hc1, z1, z2]
      · repeat (first | (with_reducible exact Below.refl _ _) | (with_reducible refine Below.setCell ?_ ?_ _) | (with_reducible refine Below.drew ?_) | (with_reducible refine Below.alloc ?_ ?_ _) | (with_reducible refine Below.trans ?_ (Below.mono hw1 ?_)) | (with_reducible exact hw1.size) | omega | (simp <;> omega) | (simp <;> (have s := hw1.size; omega)) | (have s0 := hw1.size; (try simp at s0); (try simp); omega))
  · obtain ⟨hfl, hq, hS⟩ := numsR_smR hr
    obtain ⟨bl, off, rfl, h2⟩ := fld_some hfl h
    obtain ⟨k, rfl⟩ := Int.eq_ofNat_of_zero_le hi0
    have H2 := Lib.hid h2
    have c3 := fun (W : World) (h : Lies W bl off L) => rforce_any a b c bl off cap L k W h (fldR_Fl hfl) hS (by omega)
    rw [show ((k : Int)).toNat = k by omega]
    generalize (frc a b c L k).a = x at *
    generalize (frc a b c L k).b = y at *
    generalize (frc a b c L k).c = z at *
    clear h h2 hr hS hq hfl
    go_enter Try.func26, Try.ntmps26
    go_wp2_with (first | ((with_reducible refine (c1 _ (H.out.later (by repeat (first | (with_reducible exact Below.refl _ _) | (with_reducible refine Below.setCell ?_ ?_ _) | (with_reducible refine Below.drew ?_) | (with_reducible refine Below.alloc ?_ ?_ _) | omega | (simp <;> omega))))).mono ?_); clear c1; rintro e w1 ⟨rfl, hw1⟩; have hc1 := Tail.cells hw1; have s1 := hw1.size; simp at s1; have z1 : w.heap.size + 1 < w1.heap.size := (by omega); have z2 : w.heap.size < w1.heap.size := (by omega); have b1 : Below w.heap.size w w1 := (by repeat (first | (with_reducible exact Below.refl _ _) | (with_reducible refine Below.setCell ?_ ?_ _) | (with_reducible refine Below.drew ?_) | (with_reducible refine Below.alloc ?_ ?_ _) | (with_reducible refine Below.trans ?_ (Below.mono hw1 ?_)) | (with_reducible exact hw1.size) | omega | (simp <;> omega) | (simp <;> (have s := hw1.size; omega)) | (have s0 := hw1.size; (try simp at s0); (try simp); omega))); clear s1) | ((with_reducible refine (c3 _ (H2.out.later b1)).mono ?_); clear c3; rintro e w3 ⟨rfl, hw3⟩; have hc3 := Tail.cells hw3; have z3 : w.heap.size + 1 < w3.heap.size := (by have := hw3.size; omega)))
    refine bodyPost_ret (v := .tuple #[.agg #[.int .i64 x, .int .i64 y, .int .i64 z], .int .i64 0]) (by simp [results, Try.results26, go_sem, hc1, hc3, z1, z2, z3]) rfl ⟨rfl, ?_⟩
    repeat (first | (with_reducible exact Below.refl _ _) | (with_reducible refine Below.setCell ?_ ?_ _) | (with_reducible refine Below.drew ?_) | (with_reducible refine Below.alloc ?_ ?_ _) | (with_reducible refine Below.trans ?_ (Below.mono hw3 ?_)) | (with_reducible refine Below.trans ?_ (Below.mono b1 ?_)) | (with_reducible exact hw3.size) | (with_reducible exact b1.size) | omega | (simp <;> omega) | (simp <;> (have s := hw3.size; omega)) | (simp <;> (have s := b1.size; omega)) | (have s0 := hw3.size; (try simp at s0); have s1 := b1.size; (try simp at s1); (try simp); omega))
end Go.Proofs.Ytilbhcjnkmeecaa
