/- The sum of two vectors, as the law's own function makes it.
Conditions: the lists lie in memory as it is written at the theorem. -/
import Derived.Test.YtmnlfojcofdaeaaRrC
import Derived.Test.YtmnlfojcofdaeaaFsM
namespace Go.Proofs.Ytmnlfojcofdaeaa
set_option linter.unusedVariables false
set_option linter.unusedSimpArgs false
set_option maxRecDepth 1000000
open Go.RowKit
open Um Tm Fm

theorem wr_one (x y : Int) : IntKind.i64.wrap (x + y) = wrap64 (x + y) := IntWalk.i64_left _
set_option maxHeartbeats 6400000 in
theorem plus7_any (po qo : Option Addr) (pc qc n : Nat) (M N : List Sp) (w : World) (hM : LiesOI w po (fl M)) (hN : LiesOI w qo (fl N)) (hm : n ≤ M.length) (hn : n ≤ N.length) (he : M.length = n ∨ N.length = n) (hlen : n ≤ 1000000) : Calls Try.prog 36 #[.slice po M.length pc, .slice qo N.length qc] w fun e w' => (∃ (oo : Option Addr) (k : Nat), e = .returned (.slice oo n k) ∧ LiesOI w' oo (fl (plL n M N))) ∧ Below w.heap.size w w' := by
  obtain ⟨i0, hi, hz0, hz1, hz2⟩ := info_parts infoS
  have HM := Lib.hid hM
  have HN := Lib.hid hN
  have HE := Lib.hid he
  have HL := Lib.hid (plL_len n M N)
  clear hM hN he
  have kc := @Tail.cell_re
  have kc1 : ∀ (W : World) (o : Obj) (d : Nat) (os : Array Obj) (a : Addr), a.block ≤ W.heap.size → (Sort.grow (redrawn (W.alloc o) d) os).cell? a = (W.alloc o).cell? a := fun W o d os a h => Tail.cell_re (W.alloc o) d os a (Nat.lt_of_le_of_lt h (by simp))
  go_enter Try.func36, Try.ntmps36
  go_wp2
  go_loopw [5, 6, 7, 8] (fun f q _ _ wr => ∃ (i : Nat) (v : Value), i ≤ n ∧ q = .int .i64 i ∧ v = f ∧ (i = 0 → v = .slice none 0 0) ∧ Hid (wr.ownsRow w.heap.size 64 4 v i ((fl ((plL n M N).take i)).map vi)) ∧ Hid (Below w.heap.size w wr)) (fun _ q _ _ _ => n - (intOf q).toNat)
  case atStart => exact ⟨0, _, by omega, rfl, rfl, fun _ => rfl, Lib.hid (World.ownsRow_nil _ _ _ _), Lib.hid (Below.refl _ _)⟩
  case round =>
    obtain ⟨i, v, hin, rfl, rfl, hnil, hown, hb⟩ := hrel
    by_cases hlt : i < n
    · have i1 : (i : Int) < (M.length : Int) := by omega
      have i2 : (i : Int) < (N.length : Int) := by omega
      have ex : M[i]? = some (M[i]'(by omega)) := List.getElem?_eq_getElem _
      have ey : N[i]? = some (N[i]'(by omega)) := List.getElem?_eq_getElem _
      obtain ⟨pb, pf, rfl, hP⟩ := lies_some HM.out ex
      obtain ⟨qb, qf, rfl, hQ⟩ := lies_some HN.out ey
      have HQ := Lib.hid (hQ.later hb.out)
      obtain ⟨x0, x1, x2, x3⟩ := four_at (hP.later hb.out) ex
      have lx : pb < wr.heap.size := World.block_lt_of_cell? _ _ x0
      have HY := Lib.hid ey
      have hV : (plL n M N)[i]? = some (addS (M[i]'(by omega)) (N[i]'(by omega))).w := by
        unfold plL
        rw [tab_at _ hlt, at0_of ex, at0_of ey]
      have HSN := Lib.hid (fl_take_snoc hV)
      clear hV hP hQ ex ey
      generalize M[i]'(by omega) = x at *
      generalize N[i]'(by omega) = y at *
      have e0 := wr_one x.a y.a
      rw [show wrap64 (x.a + y.a) = (addS x y).w.a from rfl] at e0
      have f0 : wrap64 (x.a + y.a) = (addS x y).w.a := rfl
      have e1 := wr_one x.b y.b
      rw [show wrap64 (x.b + y.b) = (addS x y).w.b from rfl] at e1
      have f1 : wrap64 (x.b + y.b) = (addS x y).w.b := rfl
      have e2 := wr_one x.c y.c
      rw [show wrap64 (x.c + y.c) = (addS x y).w.c from rfl] at e2
      have f2 : wrap64 (x.c + y.c) = (addS x y).w.c := rfl
      have e3 := wr_one x.d y.d
      rw [show wrap64 (x.d + y.d) = (addS x y).w.d from rfl] at e3
      have f3 : wrap64 (x.d + y.d) = (addS x y).w.d := rfl
      generalize (addS x y).w = V at *
      have W0P : IBox (wr.alloc (.cells #[.int .i64 x.a, .int .i64 x.b, .int .i64 x.c, .int .i64 x.d] 64)) wr.heap.size [x.a, x.b, x.c, x.d] := IBox.fresh4 (heap_alloc_new _ _)
      have HP0 := Lib.hid W0P
      have HB0 := Lib.hid (show Below wr.heap.size wr (wr.alloc (.cells #[.int .i64 x.a, .int .i64 x.b, .int .i64 x.c, .int .i64 x.d] 64)) by repeat (first | (with_reducible exact Below.refl _ _) | (with_reducible refine Below.setCell ?_ ?_ _) | (with_reducible refine Below.drew ?_) | (with_reducible refine Below.alloc ?_ ?_ _) | omega | (simp <;> omega)))
      clear W0P
      go_wp2
      clear x0 x1 x2 x3 lx
      generalize wr.alloc (.cells #[.int .i64 x.a, .int .i64 x.b, .int .i64 x.c, .int .i64 x.d] 64) = W0 at *
      refine wp_loop_rounds 5 ?_
      obtain ⟨y0, y1, y2, y3⟩ := four_at (HQ.out.later HB0.out) HY.out
      have ly : qb < W0.heap.size := World.block_lt_of_cell? _ _ y0
      have lp := HP0.out.lt
      have c0 := HP0.out.at (i := 0) (x := x.a) rfl
      rw [rounds_succ]
      go_wp2
      refine Tail.region_tail_below 11 (by kernel_rfl) (by kernel_rfl) ?_
      simp only [List.take_succ_cons, List.take_zero, List.drop_succ_cons, List.drop_zero]
      repeat (go_big_quiet_step (fail))
      refine wpQuiet_nil ?_
      intro w1 hw1
      have HP := Lib.hid (HP0.out.later hw1)
      have hb1 : Below wr.heap.size wr w1 := HB0.out.trans (hw1.mono (HB0.out.size))
      clear c0 y0 y1 y2 y3 ly lp
      have c0 := HP.out.at (i := 0) (x := x.a) rfl
      have fp := HP.out.free
      have lp := HP.out.lt
      go_wp2
      have HP1 := Lib.hid (show IBox (w1.setCell ⟨wr.heap.size, 0, none⟩ (.int .i64 V.a)) wr.heap.size [V.a, x.b, x.c, x.d] from HP.out.put 0 (by simp) V.a)
      have HB1 := Lib.hid (show Below wr.heap.size wr (w1.setCell ⟨wr.heap.size, 0, none⟩ (.int .i64 V.a)) by repeat (first | (with_reducible exact Below.refl _ _) | (with_reducible refine Below.setCell ?_ ?_ _) | (with_reducible refine Below.drew ?_) | (with_reducible refine Below.alloc ?_ ?_ _) | (with_reducible refine Below.trans ?_ (Below.mono hb1 ?_)) | (with_reducible exact hb1.size) | omega | (simp <;> omega) | (simp <;> (have s := hb1.size; omega)) | (have s0 := hb1.size; (try simp at s0); (try simp); omega)))
      clear c0 fp lp HP hb1 hw1 e0 f0
      generalize w1.setCell ⟨wr.heap.size, 0, none⟩ (.int .i64 V.a) = W1 at *
      obtain ⟨y0, y1, y2, y3⟩ := four_at (HQ.out.later HB1.out) HY.out
      have ly : qb < W1.heap.size := World.block_lt_of_cell? _ _ y0
      have lp := HP1.out.lt
      have c0 := HP1.out.at (i := 1) (x := x.b) rfl
      rw [rounds_succ]
      go_wp2
      refine Tail.region_tail_below 11 (by kernel_rfl) (by kernel_rfl) ?_
      simp only [List.take_succ_cons, List.take_zero, List.drop_succ_cons, List.drop_zero]
      repeat (go_big_quiet_step (fail))
      refine wpQuiet_nil ?_
      intro w2 hw2
      have HP := Lib.hid (HP1.out.later hw2)
      have hb2 : Below wr.heap.size wr w2 := HB1.out.trans (hw2.mono (HB1.out.size))
      clear c0 y0 y1 y2 y3 ly lp
      have c0 := HP.out.at (i := 1) (x := x.b) rfl
      have fp := HP.out.free
      have lp := HP.out.lt
      go_wp2
      have HP2 := Lib.hid (show IBox (w2.setCell ⟨wr.heap.size, 1, none⟩ (.int .i64 V.b)) wr.heap.size [V.a, V.b, x.c, x.d] from HP.out.put 1 (by simp) V.b)
      have HB2 := Lib.hid (show Below wr.heap.size wr (w2.setCell ⟨wr.heap.size, 1, none⟩ (.int .i64 V.b)) by repeat (first | (with_reducible exact Below.refl _ _) | (with_reducible refine Below.setCell ?_ ?_ _) | (with_reducible refine Below.drew ?_) | (with_reducible refine Below.alloc ?_ ?_ _) | (with_reducible refine Below.trans ?_ (Below.mono hb2 ?_)) | (with_reducible exact hb2.size) | omega | (simp <;> omega) | (simp <;> (have s := hb2.size; omega)) | (have s0 := hb2.size; (try simp at s0); (try simp); omega)))
      clear c0 fp lp HP hb2 hw2 e1 f1
      generalize w2.setCell ⟨wr.heap.size, 1, none⟩ (.int .i64 V.b) = W2 at *
      obtain ⟨y0, y1, y2, y3⟩ := four_at (HQ.out.later HB2.out) HY.out
      have ly : qb < W2.heap.size := World.block_lt_of_cell? _ _ y0
      have lp := HP2.out.lt
      have c0 := HP2.out.at (i := 2) (x := x.c) rfl
      rw [rounds_succ]
      go_wp2
      refine Tail.region_tail_below 11 (by kernel_rfl) (by kernel_rfl) ?_
      simp only [List.take_succ_cons, List.take_zero, List.drop_succ_cons, List.drop_zero]
      repeat (go_big_quiet_step (fail))
      refine wpQuiet_nil ?_
      intro w3 hw3
      have HP := Lib.hid (HP2.out.later hw3)
      have hb3 : Below wr.heap.size wr w3 := HB2.out.trans (hw3.mono (HB2.out.size))
      clear c0 y0 y1 y2 y3 ly lp
      have c0 := HP.out.at (i := 2) (x := x.c) rfl
      have fp := HP.out.free
      have lp := HP.out.lt
      go_wp2
      have HP3 := Lib.hid (show IBox (w3.setCell ⟨wr.heap.size, 2, none⟩ (.int .i64 V.c)) wr.heap.size [V.a, V.b, V.c, x.d] from HP.out.put 2 (by simp) V.c)
      have HB3 := Lib.hid (show Below wr.heap.size wr (w3.setCell ⟨wr.heap.size, 2, none⟩ (.int .i64 V.c)) by repeat (first | (with_reducible exact Below.refl _ _) | (with_reducible refine Below.setCell ?_ ?_ _) | (with_reducible refine Below.drew ?_) | (with_reducible refine Below.alloc ?_ ?_ _) | (with_reducible refine Below.trans ?_ (Below.mono hb3 ?_)) | (with_reducible exact hb3.size) | omega | (simp <;> omega) | (simp <;> (have s := hb3.size; omega)) | (have s0 := hb3.size; (try simp at s0); (try simp); omega)))
      clear c0 fp lp HP hb3 hw3 e2 f2
      generalize w3.setCell ⟨wr.heap.size, 2, none⟩ (.int .i64 V.c) = W3 at *
      obtain ⟨y0, y1, y2, y3⟩ := four_at (HQ.out.later HB3.out) HY.out
      have ly : qb < W3.heap.size := World.block_lt_of_cell? _ _ y0
      have lp := HP3.out.lt
      have c0 := HP3.out.at (i := 3) (x := x.d) rfl
      rw [rounds_succ]
      go_wp2
      refine Tail.region_tail_below 11 (by kernel_rfl) (by kernel_rfl) ?_
      simp only [List.take_succ_cons, List.take_zero, List.drop_succ_cons, List.drop_zero]
      repeat (go_big_quiet_step (fail))
      refine wpQuiet_nil ?_
      intro w4 hw4
      have HP := Lib.hid (HP3.out.later hw4)
      have hb4 : Below wr.heap.size wr w4 := HB3.out.trans (hw4.mono (HB3.out.size))
      clear c0 y0 y1 y2 y3 ly lp
      have c0 := HP.out.at (i := 3) (x := x.d) rfl
      have fp := HP.out.free
      have lp := HP.out.lt
      go_wp2
      have HP4 := Lib.hid (show IBox (w4.setCell ⟨wr.heap.size, 3, none⟩ (.int .i64 V.d)) wr.heap.size [V.a, V.b, V.c, V.d] from HP.out.put 3 (by simp) V.d)
      have HB4 := Lib.hid (show Below wr.heap.size wr (w4.setCell ⟨wr.heap.size, 3, none⟩ (.int .i64 V.d)) by repeat (first | (with_reducible exact Below.refl _ _) | (with_reducible refine Below.setCell ?_ ?_ _) | (with_reducible refine Below.drew ?_) | (with_reducible refine Below.alloc ?_ ?_ _) | (with_reducible refine Below.trans ?_ (Below.mono hb4 ?_)) | (with_reducible exact hb4.size) | omega | (simp <;> omega) | (simp <;> (have s := hb4.size; omega)) | (have s0 := hb4.size; (try simp at s0); (try simp); omega)))
      clear c0 fp lp HP hb4 hw4 e3 f3
      generalize w4.setCell ⟨wr.heap.size, 3, none⟩ (.int .i64 V.d) = W4 at *
      have c0 := HP4.out.at (i := 0) (x := V.a) rfl
      have c1 := HP4.out.at (i := 1) (x := V.b) rfl
      have c2 := HP4.out.at (i := 2) (x := V.c) rfl
      have c3 := HP4.out.at (i := 3) (x := V.d) rfl
      have lp := HP4.out.lt
      have b5 : Below wr.heap.size wr (W4.alloc (.cells #[.int .i64 V.a, .int .i64 V.b, .int .i64 V.c, .int .i64 V.d] 64)) := by have hb4 := HB4.out; repeat (first | (with_reducible exact Below.refl _ _) | (with_reducible refine Below.setCell ?_ ?_ _) | (with_reducible refine Below.drew ?_) | (with_reducible refine Below.alloc ?_ ?_ _) | (with_reducible refine Below.trans ?_ (Below.mono hb4 ?_)) | (with_reducible exact hb4.size) | omega | (simp <;> omega) | (simp <;> (have s := hb4.size; omega)) | (have s0 := hb4.size; (try simp at s0); (try simp); omega))
      have HO2 := Lib.hid (owned_later hown.out b5)
      have B2 := hb.out.trans (b5.mono hb.out.size)
      have hb2 := B2.size
      have z0 : (W4.alloc (.cells #[.int .i64 V.a, .int .i64 V.b, .int .i64 V.c, .int .i64 V.d] 64)).cell? ⟨W4.heap.size, 0, none⟩ = some (.int .i64 V.a) := by simp [go_sem, s4, vi]
      have z1 : (W4.alloc (.cells #[.int .i64 V.a, .int .i64 V.b, .int .i64 V.c, .int .i64 V.d] 64)).cell? ⟨W4.heap.size, 1, none⟩ = some (.int .i64 V.b) := by simp [go_sem, s4, vi]
      have z2 : (W4.alloc (.cells #[.int .i64 V.a, .int .i64 V.b, .int .i64 V.c, .int .i64 V.d] 64)).cell? ⟨W4.heap.size, 2, none⟩ = some (.int .i64 V.c) := by simp [go_sem, s4, vi]
      have z3 : (W4.alloc (.cells #[.int .i64 V.a, .int .i64 V.b, .int .i64 V.c, .int .i64 V.d] 64)).cell? ⟨W4.heap.size, 3, none⟩ = some (.int .i64 V.d) := by simp [go_sem, s4, vi]
      have hs4 : w.heap.size ≤ W4.heap.size := Nat.le_trans hb.out.size HB4.out.size
      have hs5 : (W4.alloc (.cells #[.int .i64 V.a, .int .i64 V.b, .int .i64 V.c, .int .i64 V.d] 64)).heap.size = W4.heap.size + 1 := by simp
      clear hown hb
      rw [rounds_succ]
      go_wp2_with (at_builtin; refine wpList_append_own _ rfl (.tmp 40) (.tmp 42) 26 rfl w.heap.size 64 i0 _ 4 32 Try.underlying26 hi hz0 hz1 hz2 rfl (by decide) v i ((fl ((plL n M N).take i)).map vi) rfl HO2.out ⟨W4.heap.size, 0, none⟩ 1 1 (s4 V) rfl rfl (four_news z0 z1 z2 z3) (four_ones _) (by unfold maxLen; omega) (by omega) (by omega) ?_; intro v' w5 hown5 hgrow5 _)
      have hfr := owned_from HO2.out
      have b6 := B2.grown hgrow5 (by omega) (fun j hj => by have := hfr j hj; omega)
      rw [← HSN.out] at hown5
      have HO4 := Lib.hid hown5
      have HB5 := Lib.hid b6
      clear hown5 hgrow5 b6 B2
      go_wp2
      exact ⟨⟨i + 1, _, by omega, by go_num, rfl, fun h => by omega, HO4, HB5⟩, by simp [intOf]; omega⟩
    · obtain rfl : i = n := by omega
      have hown2 := hown.out
      rw [show (plL i M N).take i = plL i M N from List.take_of_length_le (by rw [plL_len]; exact Nat.le_refl _)] at hown2
      have hres : ∃ (oo : Option Addr) (k : Nat), v = .slice oo i k ∧ LiesOI wr oo (fl (plL i M N)) := by
        by_cases h0 : i = 0
        · subst h0
          exact ⟨none, 0, hnil rfl, .inl (List.eq_nil_of_length_eq_zero (by rw [fl_len, plL_len]))⟩
        · obtain ⟨gv, cv, hv, -, hli⟩ := owned_liesS hown2 (by omega) HL.out
          exact ⟨some ⟨gv, 0, none⟩, cv, hv, .inr ⟨gv, 0, rfl, hli⟩⟩
      obtain ⟨oo, k, rfl, hli⟩ := hres
      have HLI := Lib.hid hli
      clear hown hown2 hli hnil
      have i1 : ¬ ((i : Int) < (M.length : Int) ∧ (i : Int) < (N.length : Int)) := by have := HE.out; omega
      by_cases i2 : (i : Int) < (M.length : Int)
      · have i3 : ¬ (i : Int) < (N.length : Int) := fun h => i1 ⟨i2, h⟩
        clear i1
        go_wp2
        go_ret
        exact ⟨⟨oo, ⟨k, rfl⟩, HLI.out⟩, hb.out⟩
      · clear i1
        go_wp2
        go_ret
        exact ⟨⟨oo, ⟨k, rfl⟩, HLI.out⟩, hb.out⟩
end Go.Proofs.Ytmnlfojcofdaeaa
