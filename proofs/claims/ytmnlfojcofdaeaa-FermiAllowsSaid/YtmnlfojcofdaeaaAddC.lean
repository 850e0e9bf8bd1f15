/- Sums of quaternions and of vectors in place, as the program and the document's answers make them.
Conditions: the lists lie in memory as it is written at each theorem. -/
import Derived.Test.YtmnlfojcofdaeaaVecC
import Derived.Test.YtmnlfojcofdaeaaFnM
namespace Go.Proofs.Ytmnlfojcofdaeaa
set_option linter.unusedVariables false
set_option linter.unusedSimpArgs false
set_option maxRecDepth 1000000
open Go.RowKit
open Um Tm Fm

theorem wr_add (x k y : Int) : IntKind.i64.wrap (x + IntKind.i64.wrap (k * y)) = wrap64 (x + k * y) := by
  rw [IntWalk.i64_left, IntWalk.i64_left, w_add_r]
theorem wr_add' (x k y : Int) : wrap64 (x + wrap64 (k * y)) = wrap64 (x + k * y) := w_add_r _ _
theorem set_get_ne {l : List Int} {i j : Nat} {v u : Int} (h : l[j]? = some u) (hne : i ≠ j) : (l.set i v)[j]? = some u := by
  rw [List.getElem?_set_ne hne]; exact h
theorem IBox.of4 {w : World} {g : Nat} {x y z t : Int} (h0 : w.cell? ⟨g, 0, none⟩ = some (.int .i64 x)) (h1 : w.cell? ⟨g, 1, none⟩ = some (.int .i64 y)) (h2 : w.cell? ⟨g, 2, none⟩ = some (.int .i64 z)) (h3 : w.cell? ⟨g, 3, none⟩ = some (.int .i64 t)) (hf : ∀ j, w.frozen? ⟨g, j, none⟩ = false) (hlt : g < w.heap.size) : IBox w g [x, y, z, t] := by
  refine ⟨fun i u hu => ?_, hf, hlt⟩
  rw [Nat.zero_add]
  match i, hu with
  | 0, hu => simp at hu; subst hu; exact h0
  | 1, hu => simp at hu; subst hu; exact h1
  | 2, hu => simp at hu; subst hu; exact h2
  | 3, hu => simp at hu; subst hu; exact h3
  | i + 4, hu => simp at hu
theorem IBox.fresh4 {w : World} {g : Nat} {x y z t : Int} {T : TypeId} (h : w.heap[g]? = some (.cells #[.int .i64 x, .int .i64 y, .int .i64 z, .int .i64 t] T)) : IBox w g [x, y, z, t] :=
  IBox.of4 (by simp [World.cell?, h]) (by simp [World.cell?, h]) (by simp [World.cell?, h]) (by simp [World.cell?, h]) (fun j => by simp [World.frozen?, h]) (Array.getElem?_eq_some_iff.1 h).1
set_option maxHeartbeats 3200000 in
theorem refAdd7_any (p q : Sp) (k : Int) (w : World) : Calls Try.prog 88 #[.agg #[.int .i64 p.a, .int .i64 p.b, .int .i64 p.c, .int .i64 p.d], .agg #[.int .i64 q.a, .int .i64 q.b, .int .i64 q.c, .int .i64 q.d], .int .i64 k] w fun e w' => e = .returned (.agg #[.int .i64 (addS p (smS k q)).w.a, .int .i64 (addS p (smS k q)).w.b, .int .i64 (addS p (smS k q)).w.c, .int .i64 (addS p (smS k q)).w.d]) ∧ Below w.heap.size w w' := by
  have e0 := wr_add p.a k q.a
  have f0 := wr_add' p.a k q.a
  have e1 := wr_add p.b k q.b
  have f1 := wr_add' p.b k q.b
  have e2 := wr_add p.c k q.c
  have f2 := wr_add' p.c k q.c
  have e3 := wr_add p.d k q.d
  have f3 := wr_add' p.d k q.d
  have HV := Lib.hid (show (addS p (smS k q)).w = ⟨wrap64 (p.a + k * q.a), wrap64 (p.b + k * q.b), wrap64 (p.c + k * q.c), wrap64 (p.d + k * q.d)⟩ from rfl)
  generalize (addS p (smS k q)).w = v at *
  generalize wrap64 (p.a + k * q.a) = v0 at *
  generalize wrap64 (p.b + k * q.b) = v1 at *
  generalize wrap64 (p.c + k * q.c) = v2 at *
  generalize wrap64 (p.d + k * q.d) = v3 at *
  have W0P : IBox (((w.alloc (.cells #[.int .i64 p.a, .int .i64 p.b, .int .i64 p.c, .int .i64 p.d] 64)).alloc (.cells #[.int .i64 q.a, .int .i64 q.b, .int .i64 q.c, .int .i64 q.d] 64)).alloc (.cells #[.int .i64 0, .int .i64 0, .int .i64 0, .int .i64 0] 64)) w.heap.size [p.a, p.b, p.c, p.d] := ((IBox.fresh4 (heap_alloc_new _ _)).later ((Below.refl _ _).alloc (Nat.le_refl _) _)).later ((Below.refl _ _).alloc (Nat.le_refl _) _)
  have W0Q : IBox (((w.alloc (.cells #[.int .i64 p.a, .int .i64 p.b, .int .i64 p.c, .int .i64 p.d] 64)).alloc (.cells #[.int .i64 q.a, .int .i64 q.b, .int .i64 q.c, .int .i64 q.d] 64)).alloc (.cells #[.int .i64 0, .int .i64 0, .int .i64 0, .int .i64 0] 64)) (w.heap.size + 1) [q.a, q.b, q.c, q.d] := by
    have h := (IBox.fresh4 (heap_alloc_new (w.alloc (.cells #[.int .i64 p.a, .int .i64 p.b, .int .i64 p.c, .int .i64 p.d] 64)) (.cells #[.int .i64 q.a, .int .i64 q.b, .int .i64 q.c, .int .i64 q.d] 64))).later ((Below.refl _ _).alloc (Nat.le_refl _) (.cells #[.int .i64 0, .int .i64 0, .int .i64 0, .int .i64 0] 64))
    simpa using h
  have W0Z : IBox (((w.alloc (.cells #[.int .i64 p.a, .int .i64 p.b, .int .i64 p.c, .int .i64 p.d] 64)).alloc (.cells #[.int .i64 q.a, .int .i64 q.b, .int .i64 q.c, .int .i64 q.d] 64)).alloc (.cells #[.int .i64 0, .int .i64 0, .int .i64 0, .int .i64 0] 64)) (w.heap.size + 1 + 1) [0, 0, 0, 0] := by
    have h := IBox.fresh4 (heap_alloc_new ((w.alloc (.cells #[.int .i64 p.a, .int .i64 p.b, .int .i64 p.c, .int .i64 p.d] 64)).alloc (.cells #[.int .i64 q.a, .int .i64 q.b, .int .i64 q.c, .int .i64 q.d] 64)) (.cells #[.int .i64 0, .int .i64 0, .int .i64 0, .int .i64 0] 64))
    simpa using h
  have hb : Below w.heap.size w (((w.alloc (.cells #[.int .i64 p.a, .int .i64 p.b, .int .i64 p.c, .int .i64 p.d] 64)).alloc (.cells #[.int .i64 q.a, .int .i64 q.b, .int .i64 q.c, .int .i64 q.d] 64)).alloc (.cells #[.int .i64 0, .int .i64 0, .int .i64 0, .int .i64 0] 64)) := by repeat (first | (with_reducible exact Below.refl _ _) | (with_reducible refine Below.setCell ?_ ?_ _) | (with_reducible refine Below.drew ?_) | (with_reducible refine Below.alloc ?_ ?_ _) | omega | (simp <;> omega))
  have HP0 := Lib.hid W0P
  have HQ0 := Lib.hid W0Q
  have HZ0 := Lib.hid W0Z
  have HB0 := Lib.hid hb
  clear W0P W0Q W0Z hb
  have kc := @Tail.cell_re
  have kc1 : ∀ (W : World) (o : Obj) (d : Nat) (os : Array Obj) (a : Addr), a.block ≤ W.heap.size → (Sort.grow (redrawn (W.alloc o) d) os).cell? a = (W.alloc o).cell? a := fun W o d os a h => Tail.cell_re (W.alloc o) d os a (Nat.lt_of_le_of_lt h (by simp))
  go_enter Try.func88, Try.ntmps88
  go_wp2
  generalize ((w.alloc (.cells #[.int .i64 p.a, .int .i64 p.b, .int .i64 p.c, .int .i64 p.d] 64)).alloc (.cells #[.int .i64 q.a, .int .i64 q.b, .int .i64 q.c, .int .i64 q.d] 64)).alloc (.cells #[.int .i64 0, .int .i64 0, .int .i64 0, .int .i64 0] 64) = W0 at *
  refine wp_loop_rounds 5 ?_
  have lp := HP0.out.lt
  have lq := HQ0.out.lt
  have fp := HP0.out.free
  have c0 := HP0.out.at (i := 0) (x := p.a) rfl
  have c1 := HQ0.out.at (i := 0) (x := q.a) rfl
  rw [rounds_succ]
  go_wp2
  refine Tail.region_tail_below 9 (by kernel_rfl) (by kernel_rfl) ?_
  simp only [List.take_succ_cons, List.take_zero, List.drop_succ_cons, List.drop_zero]
  repeat (go_big_quiet_step (fail))
  refine wpQuiet_nil ?_
  intro w1 hw1
  have HP := Lib.hid (HP0.out.later hw1)
  have HQ := Lib.hid (HQ0.out.later hw1)
  have HZ := Lib.hid (HZ0.out.later hw1)
  have hb1 : Below w.heap.size w w1 := HB0.out.trans (hw1.mono (HB0.out.size))
  clear c0 c1 fp
  have c0 := HP.out.at (i := 0) (x := p.a) rfl
  have fp := HP.out.free
  go_wp2
  have HP1 := Lib.hid (show IBox (w1.setCell ⟨w.heap.size, 0, none⟩ (.int .i64 v0)) w.heap.size [v0, p.b, p.c, p.d] from HP.out.put 0 (by simp) v0)
  have HQ1 := Lib.hid (HQ.out.other (b := w.heap.size) (o := 0) (v := .int .i64 v0) (by omega))
  have HZ1 := Lib.hid (HZ.out.other (b := w.heap.size) (o := 0) (v := .int .i64 v0) (by omega))
  have HB1 := Lib.hid (show Below w.heap.size w (w1.setCell ⟨w.heap.size, 0, none⟩ (.int .i64 v0)) by repeat (first | (with_reducible exact Below.refl _ _) | (with_reducible refine Below.setCell ?_ ?_ _) | (with_reducible refine Below.drew ?_) | (with_reducible refine Below.alloc ?_ ?_ _) | (with_reducible refine Below.trans ?_ (Below.mono hb1 ?_)) | (with_reducible exact hb1.size) | omega | (simp <;> omega) | (simp <;> (have s := hb1.size; omega)) | (have s0 := hb1.size; (try simp at s0); (try simp); omega)))
  clear c0 fp lp lq HP HQ HZ hb1 hw1 e0 f0
  generalize w1.setCell ⟨w.heap.size, 0, none⟩ (.int .i64 v0) = W1 at *
  have lp := HP1.out.lt
  have lq := HQ1.out.lt
  have fp := HP1.out.free
  have c0 := HP1.out.at (i := 1) (x := p.b) rfl
  have c1 := HQ1.out.at (i := 1) (x := q.b) rfl
  rw [rounds_succ]
  go_wp2
  refine Tail.region_tail_below 9 (by kernel_rfl) (by kernel_rfl) ?_
  simp only [List.take_succ_cons, List.take_zero, List.drop_succ_cons, List.drop_zero]
  repeat (go_big_quiet_step (fail))
  refine wpQuiet_nil ?_
  intro w2 hw2
  have HP := Lib.hid (HP1.out.later hw2)
  have HQ := Lib.hid (HQ1.out.later hw2)
  have HZ := Lib.hid (HZ1.out.later hw2)
  have hb2 : Below w.heap.size w w2 := HB1.out.trans (hw2.mono (HB1.out.size))
  clear c0 c1 fp
  have c0 := HP.out.at (i := 1) (x := p.b) rfl
  have fp := HP.out.free
  go_wp2
  have HP2 := Lib.hid (show IBox (w2.setCell ⟨w.heap.size, 1, none⟩ (.int .i64 v1)) w.heap.size [v0, v1, p.c, p.d] from HP.out.put 1 (by simp) v1)
  have HQ2 := Lib.hid (HQ.out.other (b := w.heap.size) (o := 1) (v := .int .i64 v1) (by omega))
  have HZ2 := Lib.hid (HZ.out.other (b := w.heap.size) (o := 1) (v := .int .i64 v1) (by omega))
  have HB2 := Lib.hid (show Below w.heap.size w (w2.setCell ⟨w.heap.size, 1, none⟩ (.int .i64 v1)) by repeat (first | (with_reducible exact Below.refl _ _) | (with_reducible refine Below.setCell ?_ ?_ _) | (with_reducible refine Below.drew ?_) | (with_reducible refine Below.alloc ?_ ?_ _) | (with_reducible refine Below.trans ?_ (Below.mono hb2 ?_)) | (with_reducible exact hb2.size) | omega | (simp <;> omega) | (simp <;> (have s := hb2.size; omega)) | (have s0 := hb2.size; (try simp at s0); (try simp); omega)))
  clear c0 fp lp lq HP HQ HZ hb2 hw2 e1 f1
  generalize w2.setCell ⟨w.heap.size, 1, none⟩ (.int .i64 v1) = W2 at *
  have lp := HP2.out.lt
  have lq := HQ2.out.lt
  have fp := HP2.out.free
  have c0 := HP2.out.at (i := 2) (x := p.c) rfl
  have c1 := HQ2.out.at (i := 2) (x := q.c) rfl
  rw [rounds_succ]
  go_wp2
  refine Tail.region_tail_below 9 (by kernel_rfl) (by kernel_rfl) ?_
  simp only [List.take_succ_cons, List.take_zero, List.drop_succ_cons, List.drop_zero]
  repeat (go_big_quiet_step (fail))
  refine wpQuiet_nil ?_
  intro w3 hw3
  have HP := Lib.hid (HP2.out.later hw3)
  have HQ := Lib.hid (HQ2.out.later hw3)
  have HZ := Lib.hid (HZ2.out.later hw3)
  have hb3 : Below w.heap.size w w3 := HB2.out.trans (hw3.mono (HB2.out.size))
  clear c0 c1 fp
  have c0 := HP.out.at (i := 2) (x := p.c) rfl
  have fp := HP.out.free
  go_wp2
  have HP3 := Lib.hid (show IBox (w3.setCell ⟨w.heap.size, 2, none⟩ (.int .i64 v2)) w.heap.size [v0, v1, v2, p.d] from HP.out.put 2 (by simp) v2)
  have HQ3 := Lib.hid (HQ.out.other (b := w.heap.size) (o := 2) (v := .int .i64 v2) (by omega))
  have HZ3 := Lib.hid (HZ.out.other (b := w.heap.size) (o := 2) (v := .int .i64 v2) (by omega))
  have HB3 := Lib.hid (show Below w.heap.size w (w3.setCell ⟨w.heap.size, 2, none⟩ (.int .i64 v2)) by repeat (first | (with_reducible exact Below.refl _ _) | (with_reducible refine Below.setCell ?_ ?_ _) | (with_reducible refine Below.drew ?_) | (with_reducible refine Below.alloc ?_ ?_ _) | (with_reducible refine Below.trans ?_ (Below.mono hb3 ?_)) | (with_reducible exact hb3.size) | omega | (simp <;> omega) | (simp <;> (have s := hb3.size; omega)) | (have s0 := hb3.size; (try simp at s0); (try simp); omega)))
  clear c0 fp lp lq HP HQ HZ hb3 hw3 e2 f2
  generalize w3.setCell ⟨w.heap.size, 2, none⟩ (.int .i64 v2) = W3 at *
  have lp := HP3.out.lt
  have lq := HQ3.out.lt
  have fp := HP3.out.free
  have c0 := HP3.out.at (i := 3) (x := p.d) rfl
  have c1 := HQ3.out.at (i := 3) (x := q.d) rfl
  rw [rounds_succ]
  go_wp2
  refine Tail.region_tail_below 9 (by kernel_rfl) (by kernel_rfl) ?_
  simp only [List.take_succ_cons, List.take_zero, List.drop_succ_cons, List.drop_zero]
  repeat (go_big_quiet_step (fail))
  refine wpQuiet_nil ?_
  intro w4 hw4
  have HP := Lib.hid (HP3.out.later hw4)
  have HQ := Lib.hid (HQ3.out.later hw4)
  have HZ := Lib.hid (HZ3.out.later hw4)
  have hb4 : Below w.heap.size w w4 := HB3.out.trans (hw4.mono (HB3.out.size))
  clear c0 c1 fp
  have c0 := HP.out.at (i := 3) (x := p.d) rfl
  have fp := HP.out.free
  go_wp2
  have HP4 := Lib.hid (show IBox (w4.setCell ⟨w.heap.size, 3, none⟩ (.int .i64 v3)) w.heap.size [v0, v1, v2, v3] from HP.out.put 3 (by simp) v3)
  have HQ4 := Lib.hid (HQ.out.other (b := w.heap.size) (o := 3) (v := .int .i64 v3) (by omega))
  have HZ4 := Lib.hid (HZ.out.other (b := w.heap.size) (o := 3) (v := .int .i64 v3) (by omega))
  have HB4 := Lib.hid (show Below w.heap.size w (w4.setCell ⟨w.heap.size, 3, none⟩ (.int .i64 v3)) by repeat (first | (with_reducible exact Below.refl _ _) | (with_reducible refine Below.setCell ?_ ?_ _) | (with_reducible refine Below.drew ?_) | (with_reducible refine Below.alloc ?_ ?_ _) | (with_reducible refine Below.trans ?_ (Below.mono hb4 ?_)) | (with_reducible exact hb4.size) | omega | (simp <;> omega) | (simp <;> (have s := hb4.size; omega)) | (have s0 := hb4.size; (try simp at s0); (try simp); omega)))
  clear c0 fp lp lq HP HQ HZ hb4 hw4 e3 f3
  generalize w4.setCell ⟨w.heap.size, 3, none⟩ (.int .i64 v3) = W4 at *
  have c0 := HP4.out.at (i := 0) (x := v0) rfl
  have c1 := HP4.out.at (i := 1) (x := v1) rfl
  have c2 := HP4.out.at (i := 2) (x := v2) rfl
  have c3 := HP4.out.at (i := 3) (x := v3) rfl
  have z0 := HZ4.out.at (i := 0) (x := 0) rfl
  have z1 := HZ4.out.at (i := 1) (x := 0) rfl
  have z2 := HZ4.out.at (i := 2) (x := 0) rfl
  have z3 := HZ4.out.at (i := 3) (x := 0) rfl
  have fz := HZ4.out.free
  rw [rounds_succ]
  go_wp2
  refine bodyPost_ret (v := .agg #[.int .i64 v.a, .int .i64 v.b, .int .i64 v.c, .int .i64 v.d]) ?_ rfl ⟨rfl, ?_⟩
  · have r := (((HZ4.out.put 0 (by simp) v0).put 1 (by simp) v1).put 2 (by simp) v2).put 3 (by simp) v3
    have r0 := r.at (i := 0) (x := v0) rfl
    have r1 := r.at (i := 1) (x := v1) rfl
    have r2 := r.at (i := 2) (x := v2) rfl
    have r3 := r.at (i := 3) (x := v3) rfl
    clear c0 c1 c2 c3 z0 z1 z2 z3
    generalize hW : (((W4.setCell ⟨w.heap.size + 1 + 1, 0, none⟩ (.int .i64 v0)).setCell ⟨w.heap.size + 1 + 1, 1, none⟩ (.int .i64 v1)).setCell ⟨w.heap.size + 1 + 1, 2, none⟩ (.int .i64 v2)).setCell ⟨w.heap.size + 1 + 1, 3, none⟩ (.int .i64 v3) = W5 at *
    simp [results, Try.results88, go_sem, hW, r0, r1, r2, r3, HV.out]
  · have hb4 := HB4.out
    repeat (first | (with_reducible exact Below.refl _ _) | (with_reducible refine Below.setCell ?_ ?_ _) | (with_reducible refine Below.drew ?_) | (with_reducible refine Below.alloc ?_ ?_ _) | (with_reducible refine Below.trans ?_ (Below.mono hb4 ?_)) | (with_reducible exact hb4.size) | omega | (simp <;> omega) | (simp <;> (have s := hb4.size; omega)) | (have s0 := hb4.size; (try simp at s0); (try simp); omega))
end Go.Proofs.Ytmnlfojcofdaeaa
