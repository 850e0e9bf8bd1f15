/- Products of vectors, as the program and the document's answers make them.
Conditions: the lists lie in memory as it is written at each theorem. -/
import Derived.Test.YtmnlfojcofdaeaaAddV
namespace Go.Proofs.Ytmnlfojcofdaeaa
set_option linter.unusedVariables false
set_option linter.unusedSimpArgs false
set_option maxRecDepth 1000000
open Go.RowKit
open Um Tm Fm

theorem dot_step (s : Int) (x y : Sp) : wrap64 (wrap64 (wrap64 (wrap64 (wrap64 s + wrap64 (x.a * y.a)) + wrap64 (x.b * y.b)) + wrap64 (x.c * y.c)) + wrap64 (x.d * y.d)) = wrap64 (s + dot4 x y) := by
  simp only [w_add_l, w_add_r]
  congr 1
  unfold dot4
  omega
theorem wr_mulA (s x y : Int) : IntKind.i64.wrap (s + IntKind.i64.wrap (x * y)) = wrap64 (s + wrap64 (x * y)) := by
  rw [IntWalk.i64_left, IntWalk.i64_left]
set_option maxHeartbeats 3200000 in
theorem dot7_any (pa po : Option Addr) (ca pc : Nat) (A M : List Sp) (w : World) (hA : LiesOI w pa (fl A)) (hM : LiesOI w po (fl M)) (hl : A.length = M.length) (hlen : M.length ≤ 1000000) : Calls Try.prog 67 #[.slice pa M.length ca, .slice po M.length pc] w fun e w' => e = .returned (.int .i64 (wrap64 (dotL A M))) ∧ Below w.heap.size w w' := by
  have HA := Lib.hid hA
  have HM := Lib.hid hM
  have HL := Lib.hid hl
  have H0 := Lib.hid (show wrap64 (dotK A M 0) = 0 from w_in (x := 0) (by decide) (by decide))
  have HS := Lib.hid (fun m => show dotK A M (m + 1) = dotK A M m + dot4 (at0 A m) (at0 M m) from rfl)
  have HE := Lib.hid (show dotL A M = dotK A M M.length by unfold dotL; rw [hl])
  clear hA hM hl
  have kc := @Tail.cell_re
  have kc1 : ∀ (W : World) (o : Obj) (d : Nat) (os : Array Obj) (a : Addr), a.block ≤ W.heap.size → (Sort.grow (redrawn (W.alloc o) d) os).cell? a = (W.alloc o).cell? a := fun W o d os a h => Tail.cell_re (W.alloc o) d os a (Nat.lt_of_le_of_lt h (by simp))
  go_enter Try.func67, Try.ntmps67
  go_wp2
  go_loopw [5, 6, 7, 8, 9, 12] (fun s _ _ _ _ q wr => ∃ m : Nat, m ≤ M.length ∧ q = .int .i64 m ∧ s = .int .i64 (wrap64 (dotK A M m)) ∧ Below w.heap.size w wr) (fun _ _ _ _ _ q _ => M.length - (intOf q).toNat)
  case atStart => exact ⟨0, by omega, rfl, by rw [H0.out], Below.refl _ _⟩
  case round =>
    obtain ⟨m, hm, rfl, rfl, hb⟩ := hrel
    by_cases hlt : m < M.length
    · have hla : m < A.length := by have := HL.out; omega
      obtain ⟨pb, off, rfl, hpl⟩ := lies_some HM.out (List.getElem?_eq_getElem hlt)
      obtain ⟨qb, qo, rfl, hql⟩ := lies_some HA.out (List.getElem?_eq_getElem hla)
      have i1 : (m : Int) < (M.length : Int) := by omega
      obtain ⟨y0, y1, y2, y3⟩ := four_at (hpl.later hb) (List.getElem?_eq_getElem hlt)
      obtain ⟨x0, x1, x2, x3⟩ := four_at (hql.later hb) (List.getElem?_eq_getElem hla)
      have eA : at0 A m = A[m] := at0_of (List.getElem?_eq_getElem hla)
      have eM : at0 M m = M[m] := at0_of (List.getElem?_eq_getElem hlt)
      have hst := HS.out m
      rw [eA, eM] at hst
      have lp := World.block_lt_of_cell? _ _ y0
      have lq := World.block_lt_of_cell? _ _ x0
      clear hpl hql eA eM
      generalize M[m] = y at *
      generalize A[m] = x at *
      have hds := dot_step (dotK A M m) x y
      rw [← hst] at hds
      have HD := Lib.hid hds
      clear hst hds
      have j0 := ixS0 x.a x.b x.c x.d
      have j1 := ixS1 x.a x.b x.c x.d
      have j2 := ixS2 x.a x.b x.c x.d
      have j3 := ixS3 x.a x.b x.c x.d
      generalize dotK A M m = s at *
      go_wp2
      refine wp_loop_rounds 5 ?_
      rw [rounds_succ]
      go_wp2
      rw [rounds_succ]
      go_wp2
      rw [rounds_succ]
      go_wp2
      rw [rounds_succ]
      go_wp2
      rw [rounds_succ]
      go_wp2
      exact ⟨⟨m + 1, by omega, by go_num, by rw [HD.out], by repeat (first | (with_reducible exact Below.refl _ _) | (with_reducible refine Below.setCell ?_ ?_ _) | (with_reducible refine Below.drew ?_) | (with_reducible refine Below.alloc ?_ ?_ _) | (with_reducible refine Below.trans ?_ (Below.mono hb ?_)) | (with_reducible exact hb.size) | omega | (simp <;> omega) | (simp <;> (have s := hb.size; omega)) | (have s0 := hb.size; (try simp at s0); (try simp); omega))⟩, by simp [intOf]; omega⟩
    · obtain rfl : m = M.length := by omega
      rw [← HE.out]
      go_wp2
      go_ret
      exact ⟨rfl, hb⟩
set_option maxHeartbeats 3200000 in
theorem refDot7_any (pa po : Option Addr) (ca pc : Nat) (A M : List Sp) (w : World) (hA : LiesOI w pa (fl A)) (hM : LiesOI w po (fl M)) (hl : A.length = M.length) (hlen : M.length ≤ 1000000) : Calls Try.prog 68 #[.slice pa M.length ca, .slice po M.length pc] w fun e w' => e = .returned (.int .i64 (wrap64 (dotL A M))) ∧ Below w.heap.size w w' := by
  have HA := Lib.hid hA
  have HM := Lib.hid hM
  have HL := Lib.hid hl
  have H0 := Lib.hid (show wrap64 (dotK A M 0) = 0 from w_in (x := 0) (by decide) (by decide))
  have HS := Lib.hid (fun m => show dotK A M (m + 1) = dotK A M m + dot4 (at0 A m) (at0 M m) from rfl)
  have HE := Lib.hid (show dotL A M = dotK A M M.length by unfold dotL; rw [hl])
  clear hA hM hl
  have kc := @Tail.cell_re
  have kc1 : ∀ (W : World) (o : Obj) (d : Nat) (os : Array Obj) (a : Addr), a.block ≤ W.heap.size → (Sort.grow (redrawn (W.alloc o) d) os).cell? a = (W.alloc o).cell? a := fun W o d os a h => Tail.cell_re (W.alloc o) d os a (Nat.lt_of_le_of_lt h (by simp))
  go_enter Try.func68, Try.ntmps68
  go_wp2
  go_loopw [5, 6, 7] (fun s q _ wr => ∃ m : Nat, m ≤ M.length ∧ q = .int .i64 m ∧ s = .int .i64 (wrap64 (dotK A M m)) ∧ Below w.heap.size w wr) (fun _ q _ _ => M.length - (intOf q).toNat)
  case atStart => exact ⟨0, by omega, rfl, by rw [H0.out], Below.refl _ _⟩
  case round =>
    obtain ⟨m, hm, rfl, rfl, hb⟩ := hrel
    by_cases hlt : m < M.length
    · have hla : m < A.length := by have := HL.out; omega
      obtain ⟨pb, off, rfl, hpl⟩ := lies_some HM.out (List.getElem?_eq_getElem hlt)
      obtain ⟨qb, qo, rfl, hql⟩ := lies_some HA.out (List.getElem?_eq_getElem hla)
      have i1 : (m : Int) < (M.length : Int) := by omega
      have hy := Lib.hid (fun (W : World) (h : LiesI W pb off (fl M)) => four_at h (List.getElem?_eq_getElem hlt))
      have hx := Lib.hid (fun (W : World) (h : LiesI W qb qo (fl A)) => four_at h (List.getElem?_eq_getElem hla))
      have eA : at0 A m = A[m] := at0_of (List.getElem?_eq_getElem hla)
      have eM : at0 M m = M[m] := at0_of (List.getElem?_eq_getElem hlt)
      have hst := HS.out m
      rw [eA, eM] at hst
      clear eA eM
      generalize M[m] = y at *
      generalize A[m] = x at *
      have hds := dot_step (dotK A M m) x y
      rw [← hst] at hds
      have HD := Lib.hid hds
      have HP0 := Lib.hid (hpl.later hb)
      have HQ0 := Lib.hid (hql.later hb)
      have W0 := Lib.hid hb
      clear hst hds hpl hql hb
      generalize dotK A M m = s at *
      go_wp2
      refine wp_loop_rounds 5 ?_
      obtain ⟨y0, y1, y2, y3⟩ := hy.out _ HP0.out
      obtain ⟨x0, x1, x2, x3⟩ := hx.out _ HQ0.out
      have lp := World.block_lt_of_cell? _ _ y0
      have lq := World.block_lt_of_cell? _ _ x0
      rw [rounds_succ]
      go_wp2
      refine Tail.region_below (by kernel_rfl) (by kernel_rfl) ?_
      repeat (go_big_quiet_step (fail))
      refine wpQuiet_nil ?_
      intro w1 hw1
      have HP1 := Lib.hid (HP0.out.later hw1)
      have HQ1 := Lib.hid (HQ0.out.later hw1)
      have W1 := Lib.hid (W0.out.trans (hw1.mono W0.out.size))
      clear x0 x1 x2 x3 y0 y1 y2 y3 lp lq hw1
      go_wp2
      obtain ⟨y0, y1, y2, y3⟩ := hy.out _ HP1.out
      obtain ⟨x0, x1, x2, x3⟩ := hx.out _ HQ1.out
      have lp := World.block_lt_of_cell? _ _ y0
      have lq := World.block_lt_of_cell? _ _ x0
      rw [rounds_succ]
      go_wp2
      refine Tail.region_below (by kernel_rfl) (by kernel_rfl) ?_
      repeat (go_big_quiet_step (fail))
      refine wpQuiet_nil ?_
      intro w2 hw2
      have HP2 := Lib.hid (HP1.out.later hw2)
      have HQ2 := Lib.hid (HQ1.out.later hw2)
      have W2 := Lib.hid (W1.out.trans (hw2.mono W1.out.size))
      clear x0 x1 x2 x3 y0 y1 y2 y3 lp lq hw2
      go_wp2
      obtain ⟨y0, y1, y2, y3⟩ := hy.out _ HP2.out
      obtain ⟨x0, x1, x2, x3⟩ := hx.out _ HQ2.out
      have lp := World.block_lt_of_cell? _ _ y0
      have lq := World.block_lt_of_cell? _ _ x0
      rw [rounds_succ]
      go_wp2
      refine Tail.region_below (by kernel_rfl) (by kernel_rfl) ?_
      repeat (go_big_quiet_step (fail))
      refine wpQuiet_nil ?_
      intro w3 hw3
      have HP3 := Lib.hid (HP2.out.later hw3)
      have HQ3 := Lib.hid (HQ2.out.later hw3)
      have W3 := Lib.hid (W2.out.trans (hw3.mono W2.out.size))
      clear x0 x1 x2 x3 y0 y1 y2 y3 lp lq hw3
      go_wp2
      obtain ⟨y0, y1, y2, y3⟩ := hy.out _ HP3.out
      obtain ⟨x0, x1, x2, x3⟩ := hx.out _ HQ3.out
      have lp := World.block_lt_of_cell? _ _ y0
      have lq := World.block_lt_of_cell? _ _ x0
      rw [rounds_succ]
      go_wp2
      refine Tail.region_below (by kernel_rfl) (by kernel_rfl) ?_
      repeat (go_big_quiet_step (fail))
      refine wpQuiet_nil ?_
      intro w4 hw4
      have HP4 := Lib.hid (HP3.out.later hw4)
      have HQ4 := Lib.hid (HQ3.out.later hw4)
      have W4 := Lib.hid (W3.out.trans (hw4.mono W3.out.size))
      clear x0 x1 x2 x3 y0 y1 y2 y3 lp lq hw4
      go_wp2
      rw [rounds_succ]
      go_wp2
      have hb4 := W4.out
      exact ⟨⟨m + 1, by omega, by go_num, by first | rw [HD.out] | (simp only [IntWalk.i64_left]; rw [HD.out]), hb4⟩, by simp [intOf]; omega⟩
    · obtain rfl : m = M.length := by omega
      rw [← HE.out]
      go_wp2
      go_ret
      exact ⟨rfl, hb⟩
end Go.Proofs.Ytmnlfojcofdaeaa
