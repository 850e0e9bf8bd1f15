/- The Cayley map and its inverse, as the program makes them.
Conditions: none. -/
import Derived.Test.YtoafojojhdcmfaaRefRot
namespace Go.Proofs.Ytoafojojhdcmfaa
set_option linter.unusedVariables false
set_option linter.unusedSimpArgs false
open Go.RowKit
open Um

set_option maxHeartbeats 1600000 in
theorem cayley_far (a b c d : Int) (w : World) (hv : vB a b c = false) : Calls Try.prog 74 #[.agg #[.int .i64 a, .int .i64 b, .int .i64 c], .int .i64 d] w fun e w' => e = .returned (.tuple #[.agg #[.int .i64 zero.a, .int .i64 zero.b, .int .i64 zero.c, .int .i64 zero.d, .int .i64 zero.n], .int .i64 1]) ∧ Below w.heap.size w w' := by
  have c2 : ∀ W : World, Calls Try.prog 136 #[.agg #[.int .i64 a, .int .i64 b, .int .i64 c], .int .i64 1000] W fun e w' => e = .returned (.bool false) ∧ Below W.heap.size W w' := fun W => by
    have := vwithin_any ⟨0, a, b, c, 1⟩ 1000 W (by omega) (by omega)
    have e : (inB a (-1000) 1000 && inB b (-1000) 1000 && inB c (-1000) 1000) = false := hv
    dsimp only at this
    rw [e] at this
    exact this
  clear hv
  go_enter Try.func74, Try.ntmps74
  go_wp2_with ((with_reducible refine (c2 _).mono ?_); rintro e w1 ⟨rfl, hw1⟩; have hc := Tail.cells hw1; have zw10 := Nat.lt_of_lt_of_le (n := w.heap.size) (by simp <;> omega) hw1.size; have zw11 := Nat.lt_of_lt_of_le (n := w.heap.size + 1) (by simp <;> omega) hw1.size)
  refine bodyPost_ret (v := .tuple #[.agg #[.int .i64 zero.a, .int .i64 zero.b, .int .i64 zero.c, .int .i64 zero.d, .int .i64 zero.n], .int .i64 1]) ?_ rfl ⟨rfl, ?_⟩
  · simp [results, Try.results74, go_sem, hc, zw10, zw11, zero]
  · repeat (first | (with_reducible exact Below.refl _ _) | (with_reducible refine Below.setCell ?_ ?_ _) | (with_reducible refine Below.drew ?_) | (with_reducible refine Below.alloc ?_ ?_ _) | (with_reducible refine Below.trans ?_ (Below.mono hw1 ?_)) | (with_reducible exact hw1.size) | omega | (simp <;> omega) | (simp <;> (have s := hw1.size; omega)) | (have s0 := hw1.size; (try simp at s0); (try simp); omega))

set_option maxHeartbeats 1600000 in
theorem cayley_d (a b c d : Int) (w : World) (hv : vB a b c = true) (hd : d < 1 ∨ (¬ d < 1 ∧ 1000 < d)) : Calls Try.prog 74 #[.agg #[.int .i64 a, .int .i64 b, .int .i64 c], .int .i64 d] w fun e w' => e = .returned (.tuple #[.agg #[.int .i64 zero.a, .int .i64 zero.b, .int .i64 zero.c, .int .i64 zero.d, .int .i64 zero.n], .int .i64 1]) ∧ Below w.heap.size w w' := by
  have c2 : ∀ W : World, Calls Try.prog 136 #[.agg #[.int .i64 a, .int .i64 b, .int .i64 c], .int .i64 1000] W fun e w' => e = .returned (.bool true) ∧ Below W.heap.size W w' := fun W => by
    have := vwithin_any ⟨0, a, b, c, 1⟩ 1000 W (by omega) (by omega)
    have e : (inB a (-1000) 1000 && inB b (-1000) 1000 && inB c (-1000) 1000) = true := hv
    dsimp only at this
    rw [e] at this
    exact this
  clear hv
  rcases hd with hd | ⟨hd1, hd⟩
  all_goals
    go_enter Try.func74, Try.ntmps74
    go_wp2_with ((with_reducible refine (c2 _).mono ?_); rintro e w1 ⟨rfl, hw1⟩; have hc := Tail.cells hw1; have zw10 := Nat.lt_of_lt_of_le (n := w.heap.size) (by simp <;> omega) hw1.size; have zw11 := Nat.lt_of_lt_of_le (n := w.heap.size + 1) (by simp <;> omega) hw1.size)
    refine bodyPost_ret (v := .tuple #[.agg #[.int .i64 zero.a, .int .i64 zero.b, .int .i64 zero.c, .int .i64 zero.d, .int .i64 zero.n], .int .i64 1]) ?_ rfl ⟨rfl, ?_⟩
    · simp [results, Try.results74, go_sem, hc, zw10, zw11, zero]
    · repeat (first | (with_reducible exact Below.refl _ _) | (with_reducible refine Below.setCell ?_ ?_ _) | (with_reducible refine Below.drew ?_) | (with_reducible refine Below.alloc ?_ ?_ _) | (with_reducible refine Below.trans ?_ (Below.mono hw1 ?_)) | (with_reducible exact hw1.size) | omega | (simp <;> omega) | (simp <;> (have s := hw1.size; omega)) | (have s0 := hw1.size; (try simp at s0); (try simp); omega))

/-- what the Cayley map answers -/
def cayR (a b c d : Int) (r : Q) (er : Int) : Prop :=
  ((low (cay a b c d)).n ≤ 1048576 ∧ r = low (cay a b c d) ∧ er = 0) ∨ (1048576 < (low (cay a b c d)).n ∧ r = zero ∧ er = 3)

theorem sq_le {a : Int} (h : -1000 ≤ a ∧ a ≤ 1000) : 0 ≤ a * a ∧ a * a ≤ 1000000 := by
  have := mul_bnd (X := 1000) (Y := 1000) (by omega) h h
  have := sq_nonneg a
  omega

set_option maxRecDepth 100000 in
set_option maxHeartbeats 1600000 in
theorem cayley_ok (a b c d : Int) (r : Q) (er : Int) (w : World) (hv : vB a b c = true) (hd1 : ¬ d < 1) (hd2 : ¬ 1000 < d) (hr : cayR a b c d r er) : Calls Try.prog 74 #[.agg #[.int .i64 a, .int .i64 b, .int .i64 c], .int .i64 d] w fun e w' => e = .returned (.tuple #[.agg #[.int .i64 r.a, .int .i64 r.b, .int .i64 r.c, .int .i64 r.d, .int .i64 r.n], .int .i64 er]) ∧ Below w.heap.size w w' := by
  have hvb := vB_iff.1 hv
  have c2 : ∀ W : World, Calls Try.prog 136 #[.agg #[.int .i64 a, .int .i64 b, .int .i64 c], .int .i64 1000] W fun e w' => e = .returned (.bool true) ∧ Below W.heap.size W w' := fun W => by
    have := vwithin_any ⟨0, a, b, c, 1⟩ 1000 W (by omega) (by omega)
    have e : (inB a (-1000) 1000 && inB b (-1000) 1000 && inB c (-1000) 1000) = true := hv
    dsimp only at this
    rw [e] at this
    exact this
  have bd := vec_bd hvb.1 hvb.2.1 hvb.2.2
  have c3 : ∀ W : World, Calls Try.prog 138 #[.agg #[.int .i64 a, .int .i64 b, .int .i64 c], .agg #[.int .i64 a, .int .i64 b, .int .i64 c]] W fun e w' => e = .returned (.int .i64 (a * a + b * b + c * c)) ∧ Below W.heap.size W w' := fun W => dot_any ⟨0, a, b, c, 1⟩ ⟨0, a, b, c, 1⟩ W (Bd.small (by omega) bd bd (by omega))
  have ka := mul_bnd (a := 2 * d) (b := a) (X := 2000) (Y := 1000) (by omega) (by omega) hvb.1
  have kb := mul_bnd (a := 2 * d) (b := b) (X := 2000) (Y := 1000) (by omega) (by omega) hvb.2.1
  have kc' := mul_bnd (a := 2 * d) (b := c) (X := 2000) (Y := 1000) (by omega) (by omega) hvb.2.2
  have c4 : ∀ W : World, Calls Try.prog 139 #[.agg #[.int .i64 a, .int .i64 b, .int .i64 c], .int .i64 (2 * d)] W fun e w' => e = .returned (.agg #[.int .i64 (2 * d * a), .int .i64 (2 * d * b), .int .i64 (2 * d * c)]) ∧ Below W.heap.size W w' := fun W => scaled_any ⟨0, a, b, c, 1⟩ (2 * d) W (by dsimp only; omega) (by dsimp only; omega) (by dsimp only; omega)
  have sd := sq_le (a := d) (by omega)
  have sa := sq_le hvb.1
  have sb := sq_le hvb.2.1
  have sc := sq_le hvb.2.2
  have hu := cay_len a b c d (by omega)
  have hi : In (cay a b c d) 4611686018427387904 := U.in hu (by simp only [cay]; omega)
  have c5 : ∀ W : World, Calls Try.prog 97 #[.agg #[.int .i64 (2 * d * a), .int .i64 (2 * d * b), .int .i64 (2 * d * c), .int .i64 (d * d - (a * a + b * b + c * c)), .int .i64 (d * d + (a * a + b * b + c * c))]] W fun e' w' => e' = .returned (.tuple #[.agg #[.int .i64 r.a, .int .i64 r.b, .int .i64 r.c, .int .i64 r.d, .int .i64 r.n], .int .i64 er]) ∧ Below W.heap.size W w' := fun W => by
    rcases hr with ⟨h1, rfl, rfl⟩ | ⟨h1, rfl, rfl⟩
    · exact unit_ok (cay a b c d) _ hi h1
    · exact unit_large (cay a b c d) _ hi h1
  obtain ⟨sd1, sd2⟩ := sd
  obtain ⟨sa1, sa2⟩ := sa
  obtain ⟨sb1, sb2⟩ := sb
  obtain ⟨sc1, sc2⟩ := sc
  clear hv hvb bd ka kb kc' hu hi hr
  generalize hL : a * a + b * b + c * c = L at *
  have hL1 : 0 ≤ L := by omega
  have hL2 : L ≤ 3000000 := by omega
  clear hL sa1 sa2 sb1 sb2 sc1 sc2
  go_enter Try.func74, Try.ntmps74
  go_wp2_with (first | ((with_reducible refine (c2 _).mono ?_); rintro e w1 ⟨rfl, hw1⟩; have hc := Tail.cells hw1; have zw10 := Nat.lt_of_lt_of_le (n := w.heap.size) (by simp <;> omega) hw1.size; have zw11 := Nat.lt_of_lt_of_le (n := w.heap.size + 1) (by simp <;> omega) hw1.size; have zw12 := Nat.lt_of_lt_of_le (n := w.heap.size + 2) (by simp <;> omega) hw1.size) | ((with_reducible refine (c3 _).mono ?_); rintro e w2 ⟨rfl, hw2⟩; have hc2 := Tail.cells hw2; have s2 := hw2.size; have z20 : w.heap.size < w2.heap.size := (by omega); have z21 : w.heap.size + 1 < w2.heap.size := (by omega); have z22 : w.heap.size + 2 < w2.heap.size := (by omega)) | ((with_reducible refine (c4 _).mono ?_); rintro e w3 ⟨rfl, hw3⟩; have hc3 := Tail.cells hw3; have s3 := hw3.size; have z30 : w.heap.size < w3.heap.size := (by omega); have z31 : w.heap.size + 1 < w3.heap.size := (by omega); have z32 : w.heap.size + 2 < w3.heap.size := (by omega)) | ((with_reducible refine (c5 _).mono ?_); rintro e w4 ⟨rfl, hw4⟩; have hc4 := Tail.cells hw4; have s4 := hw4.size; have z41 : w.heap.size + 1 < w4.heap.size := (by omega)))
  refine bodyPost_ret (v := .tuple #[.agg #[.int .i64 r.a, .int .i64 r.b, .int .i64 r.c, .int .i64 r.d, .int .i64 r.n], .int .i64 er]) ?_ rfl ⟨rfl, ?_⟩
  · simp [results, Try.results74, go_sem, hc, hc2, hc3, hc4, zw10, zw11, zw12, z20, z21, z22, z30, z31, z41]
  · repeat (first | (with_reducible exact Below.refl _ _) | (with_reducible refine Below.setCell ?_ ?_ _) | (with_reducible refine Below.drew ?_) | (with_reducible refine Below.alloc ?_ ?_ _) | (with_reducible refine Below.trans ?_ (Below.mono hw4 ?_)) | (with_reducible refine Below.trans ?_ (Below.mono hw3 ?_)) | (with_reducible refine Below.trans ?_ (Below.mono hw2 ?_)) | (with_reducible refine Below.trans ?_ (Below.mono hw1 ?_)) | (with_reducible exact hw4.size) | (with_reducible exact hw3.size) | (with_reducible exact hw2.size) | (with_reducible exact hw1.size) | omega | (simp <;> omega) | (simp <;> (have s := hw4.size; omega)) | (simp <;> (have s := hw3.size; omega)) | (simp <;> (have s := hw2.size; omega)) | (simp <;> (have s := hw1.size; omega)) | (have s0 := hw4.size; (try simp at s0); have s1 := hw3.size; (try simp at s1); have s2 := hw2.size; (try simp at s2); have s3 := hw1.size; (try simp at s3); (try simp); omega))
end Go.Proofs.Ytoafojojhdcmfaa
