/- Which units commute, as the program and the document's answers find it.
Conditions: none. -/
import Derived.Test.YtecoemdpfpdeoaaMulCases
import Derived.Test.YtecoemdpfpdeoaaWide
namespace Go.Proofs.Ytecoemdpfpdeoaa
set_option linter.unusedVariables false
set_option linter.unusedSimpArgs false
open Go.RowKit
open Um

/-- Whether two products are one, part by part. -/
def Differ (p q : Q) (r : Bool) : Prop := (p = q ∧ r = true) ∨ (¬ p.b = q.b ∧ r = false) ∨ (p.b = q.b ∧ ¬ p.c = q.c ∧ r = false) ∨ (p.b = q.b ∧ p.c = q.c ∧ ¬ p.d = q.d ∧ r = false)
theorem differ_mul (x y : Q) : Differ (mul x y) (mul y x) (decide (mul x y = mul y x)) := by
  by_cases h : mul x y = mul y x
  · exact .inl ⟨h, by simpa using h⟩
  · have hd : decide (mul x y = mul y x) = false := by simpa using h
    rw [hd]
    by_cases hb : (mul x y).b = (mul y x).b
    · by_cases hc : (mul x y).c = (mul y x).c
      · refine .inr (.inr (.inr ⟨hb, hc, fun he => h ?_, rfl⟩))
        have ha : (mul x y).a = (mul y x).a := by simp only [mul]; grind
        have hn : (mul x y).n = (mul y x).n := by simp only [mul]; grind
        cases e1 : mul x y
        cases e2 : mul y x
        rw [e1, e2] at ha hb hc he hn
        simp at ha hb hc he hn
        simp [ha, hb, hc, he, hn]
      · exact .inr (.inr (.inl ⟨hb, hc, rfl⟩))
    · exact .inr (.inl ⟨hb, rfl⟩)

set_option maxHeartbeats 800000 in
theorem commute_bad (x y : Q) (w : World) (h : ¬ V x ∨ ¬ V y) : Calls Try.prog 39 #[.agg #[.int .i64 x.a, .int .i64 x.b, .int .i64 x.c, .int .i64 x.d, .int .i64 x.n], .agg #[.int .i64 y.a, .int .i64 y.b, .int .i64 y.c, .int .i64 y.d, .int .i64 y.n]] w fun e w' => e = .returned (.tuple #[.bool false, .int .i64 1]) ∧ Below w.heap.size w w' := by
  have hv := vAll2 (r := 1) (.inr ⟨h, rfl⟩)
  clear h
  go_enter Try.func39, Try.ntmps39
  go_wp2_with (go_at_call 64; refine (validate2_any _ _ x y _ _ hv (by simp [go_sem]) (by simp [go_sem]) (by simp [go_sem]) (by simp [go_sem]) (by simp [go_sem]) (by simp [go_sem]) (by simp [go_sem]) (by simp [go_sem]) (by simp [go_sem]) (by simp [go_sem])).mono ?_; rintro e w1 ⟨rfl, hw1⟩; have hc := Tail.cells hw1; have zw10 := Nat.lt_of_lt_of_le (n := w.heap.size) (by simp <;> omega) hw1.size; have zw11 := Nat.lt_of_lt_of_le (n := w.heap.size + 1) (by simp <;> omega) hw1.size; have zw12 := Nat.lt_of_lt_of_le (n := w.heap.size + 2) (by simp <;> omega) hw1.size)
  go_ret2
  exact ⟨rfl, by repeat (first | (with_reducible exact Below.refl _ _) | (with_reducible refine Below.setCell ?_ ?_ _) | (with_reducible refine Below.drew ?_) | (with_reducible refine Below.alloc ?_ ?_ _) | (with_reducible refine Below.trans ?_ (Below.mono hw1 ?_)) | (with_reducible exact hw1.size) | omega | (simp <;> omega) | (simp <;> (have s := hw1.size; omega)))⟩

set_option maxRecDepth 100000 in
set_option maxHeartbeats 1600000 in
theorem commute_ok (x y p q : Q) (r : Bool) (w : World) (hx : V x) (hy : V y) (hp : p = mul x y) (hq : q = mul y x) (hr : Differ p q r) : Calls Try.prog 39 #[.agg #[.int .i64 x.a, .int .i64 x.b, .int .i64 x.c, .int .i64 x.d, .int .i64 x.n], .agg #[.int .i64 y.a, .int .i64 y.b, .int .i64 y.c, .int .i64 y.d, .int .i64 y.n]] w fun e w' => e = .returned (.tuple #[.bool r, .int .i64 0]) ∧ Below w.heap.size w w' := by
  have hv := vAll2 (r := 0) (.inl ⟨hx, hy, rfl⟩)
  have c1 := fun W : World => quaternionOf_any x W
  have c2 := fun W : World => quaternionOf_any y W
  have c3 := fun W : World => times_any x y W (V.small2 hx hy)
  have c4 := fun W : World => times_any y x W (V.small2 hy hx)
  rw [← hp] at c3
  rw [← hq] at c4
  clear hp hq
  clear hx hy
  have kc := @Tail.cell_re
  go_enter Try.func39, Try.ntmps39
  go_wp2_with (go_at_call 64; refine (validate2_any _ _ x y _ _ hv (by simp [go_sem]) (by simp [go_sem]) (by simp [go_sem]) (by simp [go_sem]) (by simp [go_sem]) (by simp [go_sem]) (by simp [go_sem]) (by simp [go_sem]) (by simp [go_sem]) (by simp [go_sem])).mono ?_; rintro e w1 ⟨rfl, hw1⟩; have hc := Tail.cells hw1; have zw10 := Nat.lt_of_lt_of_le (n := w.heap.size) (by simp <;> omega) hw1.size; have zw11 := Nat.lt_of_lt_of_le (n := w.heap.size + 1) (by simp <;> omega) hw1.size; have zw12 := Nat.lt_of_lt_of_le (n := w.heap.size + 2) (by simp <;> omega) hw1.size)
  apply Wide.region_two 4 (.cells #[.int .i64 0, .int .i64 0, .int .i64 0, .int .i64 0, .int .i64 0] 68) (.cells #[.int .i64 0, .int .i64 0, .int .i64 0, .int .i64 0, .int .i64 0] 68) (some 7) (some 8) (by kernel_rfl) (by kernel_rfl) (by kernel_rfl) ⟨_, rfl, rfl, fun a W => ⟨rfl, by simp [go_sem]⟩⟩ ⟨_, rfl, rfl, fun a W => ⟨rfl, by simp [go_sem]⟩⟩
  · intro B hB
    have hcB := Tail.cells hB
    have zB0 := Nat.lt_of_lt_of_le zw10 hB.size
    have zB1 := Nat.lt_of_lt_of_le zw11 hB.size
    simp only [List.take_succ_cons, List.take_zero]
    repeat (go_big_quiet_step (first | (with_reducible exact Calls.regrown_of (c1 _)) | (with_reducible exact Calls.regrown_of (c2 _))))
    exact wpQuiet_nil rfl
  · intro b c w2 hb hcc hbc hw2 hx2 hy2
    simp only [List.drop_succ_cons, List.drop_zero]
    have k0 := Wide.cell_at hx2 0 _ rfl
    have k1 := Wide.cell_at hx2 1 _ rfl
    have k2 := Wide.cell_at hx2 2 _ rfl
    have k3 := Wide.cell_at hx2 3 _ rfl
    have k4 := Wide.cell_at hx2 4 _ rfl
    have f := Wide.free_at hx2
    have m0 := Wide.cell_at hy2 0 _ rfl
    have m1 := Wide.cell_at hy2 1 _ rfl
    have m2 := Wide.cell_at hy2 2 _ rfl
    have m3 := Wide.cell_at hy2 3 _ rfl
    have m4 := Wide.cell_at hy2 4 _ rfl
    have f' := Wide.free_at hy2
    have hbl : b < w2.heap.size := World.block_lt_of_cell? w2 _ k0
    have hcl : c < w2.heap.size := World.block_lt_of_cell? w2 _ m0
    have zb : w.heap.size + 2 < b := Nat.lt_of_lt_of_le zw12 hb
    have zc : w.heap.size + 2 < c := Nat.lt_of_lt_of_le zw12 hcc
    have hbc' : b ≠ c := fun h => hbc h.symm
    clear hx2 hy2
    rcases hr with ⟨rfl, rfl⟩ | ⟨e1, rfl⟩ | ⟨e1, e2, rfl⟩ | ⟨e1, e2, e3, rfl⟩
    all_goals
      go_wp2
      refine Tail.region_below (by kernel_rfl) (by kernel_rfl) ?_
      repeat (go_big_quiet_step (first | (with_reducible exact Calls.regrown_of (c3 _)) | (with_reducible exact Calls.regrown_of (c4 _))))
      refine wpQuiet_nil ?_
      intro w9 hw9
      go_wp2
      go_ret2
      exact ⟨rfl, by repeat (first | (with_reducible exact Below.refl _ _) | (with_reducible refine Below.setCell ?_ ?_ _) | (with_reducible refine Below.drew ?_) | (with_reducible refine Below.alloc ?_ ?_ _) | (with_reducible refine Below.trans ?_ (Below.mono hw9 ?_)) | (with_reducible refine Below.trans ?_ (Below.mono hw2 ?_)) | (with_reducible refine Below.trans ?_ (Below.mono hw1 ?_)) | (with_reducible exact hw9.size) | (with_reducible exact hw2.size) | (with_reducible exact hw1.size) | omega | (simp <;> omega) | (simp <;> (have s := hw9.size; omega)) | (simp <;> (have s := hw2.size; omega)) | (simp <;> (have s := hw1.size; omega)))⟩

set_option maxHeartbeats 800000 in
theorem refCommute_bad (x y : Q) (w : World) (h : ¬ V x ∨ ¬ V y) : Calls Try.prog 40 #[.agg #[.int .i64 x.a, .int .i64 x.b, .int .i64 x.c, .int .i64 x.d, .int .i64 x.n], .agg #[.int .i64 y.a, .int .i64 y.b, .int .i64 y.c, .int .i64 y.d, .int .i64 y.n]] w fun e w' => e = .returned (.tuple #[.bool false, .int .i64 1]) ∧ Below w.heap.size w w' := by
  have c1 := fun W : World => both_any x y 1 W (.inr ⟨h, rfl⟩)
  clear h
  go_enter Try.func40, Try.ntmps40
  go_wp2_with ((with_reducible refine (c1 _).mono ?_); rintro e w1 ⟨rfl, hw1⟩; have hc := Tail.cells hw1; have zw10 := Nat.lt_of_lt_of_le (n := w.heap.size) (by simp <;> omega) hw1.size; have zw11 := Nat.lt_of_lt_of_le (n := w.heap.size + 1) (by simp <;> omega) hw1.size)
  go_ret2
  exact ⟨rfl, by repeat (first | (with_reducible exact Below.refl _ _) | (with_reducible refine Below.setCell ?_ ?_ _) | (with_reducible refine Below.drew ?_) | (with_reducible refine Below.alloc ?_ ?_ _) | (with_reducible refine Below.trans ?_ (Below.mono hw1 ?_)) | (with_reducible exact hw1.size) | omega | (simp <;> omega) | (simp <;> (have s := hw1.size; omega)))⟩

theorem Differ.a {p q : Q} {r : Bool} (h : Differ p q r) (ha : p.a = q.a) : True := trivial

set_option maxRecDepth 100000 in
set_option maxHeartbeats 1600000 in
theorem refCommute_ok (x y p q : Q) (r : Bool) (w : World) (hx : V x) (hy : V y) (hp : p = mul x y) (hq : q = mul y x) (ha : p.a = q.a) (hr : Differ p q r) : Calls Try.prog 40 #[.agg #[.int .i64 x.a, .int .i64 x.b, .int .i64 x.c, .int .i64 x.d, .int .i64 x.n], .agg #[.int .i64 y.a, .int .i64 y.b, .int .i64 y.c, .int .i64 y.d, .int .i64 y.n]] w fun e w' => e = .returned (.tuple #[.bool r, .int .i64 0]) ∧ Below w.heap.size w w' := by
  have c0 := fun W : World => both_any x y 0 W (.inl ⟨hx, hy, rfl⟩)
  have c3 := fun W : World => raw_any x y W (V.small2 hx hy)
  have c4 := fun W : World => raw_any y x W (V.small2 hy hx)
  rw [← hp] at c3
  rw [← hq] at c4
  clear hp hq hx hy
  have kc := @Tail.cell_re
  rcases hr with ⟨rfl, rfl⟩ | ⟨e1, rfl⟩ | ⟨e1, e2, rfl⟩ | ⟨e1, e2, e3, rfl⟩
  all_goals
    go_enter Try.func40, Try.ntmps40
    go_wp2_with ((with_reducible refine (c0 _).mono ?_); rintro e w1 ⟨rfl, hw1⟩; have hc := Tail.cells hw1; have zw10 := Nat.lt_of_lt_of_le (n := w.heap.size) (by simp <;> omega) hw1.size; have zw11 := Nat.lt_of_lt_of_le (n := w.heap.size + 1) (by simp <;> omega) hw1.size)
    refine Tail.region_below (by kernel_rfl) (by kernel_rfl) ?_
    repeat (go_big_quiet_step (first | (with_reducible exact Calls.regrown_of (c3 _)) | (with_reducible exact Calls.regrown_of (c4 _))))
    refine wpQuiet_nil ?_
    intro w9 hw9
    go_wp2
    go_ret2
    exact ⟨rfl, by repeat (first | (with_reducible exact Below.refl _ _) | (with_reducible refine Below.setCell ?_ ?_ _) | (with_reducible refine Below.drew ?_) | (with_reducible refine Below.alloc ?_ ?_ _) | (with_reducible refine Below.trans ?_ (Below.mono hw9 ?_)) | (with_reducible refine Below.trans ?_ (Below.mono hw1 ?_)) | (with_reducible exact hw9.size) | (with_reducible exact hw1.size) | omega | (simp <;> omega) | (simp <;> (have s := hw9.size; omega)) | (simp <;> (have s := hw1.size; omega)))⟩
end Go.Proofs.Ytecoemdpfpdeoaa
