/- The hopping of a vector, as the program makes it out of the arms.
Conditions: the arms and the vector lie in memory as it is written. -/
import Derived.Test.YtmnlfojcofdaeaaHpC
namespace Go.Proofs.Ytmnlfojcofdaeaa
set_option linter.unusedVariables false
set_option linter.unusedSimpArgs false
set_option maxRecDepth 1000000
open Go.RowKit
open Um Tm Fm

theorem wr_two (x y : Int) : IntKind.i64.wrap (wrap64 x + wrap64 y) = wrap64 (x + y) := by
  rw [IntWalk.i64_left, w_add_l, w_add_r]
theorem wr_two' (x y : Int) : wrap64 (wrap64 x + wrap64 y) = wrap64 (x + y) := by rw [w_add_l, w_add_r]
set_option maxHeartbeats 6400000 in
theorem of_any (base g n gc b off pc : Nat) (vs : Nat → Value) (R : Nat → List Arm) (M : List Sp) (w : World) (hH : Hp w base g n vs R) (hM : LiesI w b off (fl M)) (hn : M.length = n) (hp : 0 < n) (hfr : ∀ (s j : Nat) (x : Arm), s < n → (R s)[j]? = some x → x.frm < n) (hrl : ∀ s, s < n → (R s).length ≤ 1000000) (hlen : n ≤ 1000000) : Calls Try.prog 51 #[.slice (some ⟨g, 0, none⟩) n gc, .slice (some ⟨b, off, none⟩) n pc] w fun e w' => RetS w.heap.size (hopR n R M) e w' ∧ Below w.heap.size w w' := by
  have HH := Lib.hid hH
  have HM := Lib.hid hM
  have HN := Lib.hid hn
  have HF := Lib.hid hfr
  have HRL := Lib.hid hrl
  have hlm := fl_lt hM (by omega)
  have hlg := hH.lt
  have mk := fun (W : World) => makeS W n n rfl hlen
  have K0 := Lib.hid (show IBox (w.alloc (.cells (madeCells sz.toArray (n * 4)) 64)) w.heap.size (fl (prt n R M 0 0)) by rw [prt_start]; exact IBox.madeS (T := 64) (heap_alloc_new _ _) (by simp))
  have HB0 := Lib.hid (show Below w.heap.size w (w.alloc (.cells (madeCells sz.toArray (n * 4)) 64)) by repeat (first | (with_reducible exact Below.refl _ _) | (with_reducible refine Below.setCell ?_ ?_ _) | (with_reducible refine Below.drew ?_) | (with_reducible refine Below.alloc ?_ ?_ _) | omega | (simp <;> omega)))
  clear hH hM hn hfr hrl
  have kc := @Tail.cell_re
  have kc1 : ∀ (W : World) (o : Obj) (d : Nat) (os : Array Obj) (a : Addr), a.block ≤ W.heap.size → (Sort.grow (redrawn (W.alloc o) d) os).cell? a = (W.alloc o).cell? a := fun W o d os a h => Tail.cell_re (W.alloc o) d os a (Nat.lt_of_le_of_lt h (by simp))
  go_enter Try.func51, Try.ntmps51
  go_wp2
  generalize w.alloc (.cells (madeCells sz.toArray (n * 4)) 64) = W0 at *
  go_loopw [6, 7, 9, 10, 11, 17] (fun _ _ _ _ _ q wr => ∃ s : Nat, s ≤ n ∧ q = .int .i64 s ∧ Hid (IBox wr w.heap.size (fl (prt n R M s 0))) ∧ Hid (Below w.heap.size w wr)) (fun _ _ _ _ _ q _ => n - (intOf q).toNat)
  case atStart => exact ⟨0, by omega, rfl, K0, HB0⟩
  case round =>
    obtain ⟨s, hs, rfl, hbox, hb⟩ := hrel
    clear K0 HB0
    by_cases hlt : s < n
    · have i1 : (s : Int) < (n : Int) := by omega
      obtain ⟨ao, cap, hv, hrow⟩ := HH.out.form hlt
      have hcell := (HH.out.later hb.out).cell s hlt
      rw [hv] at hcell
      have hrn := HRL.out s hlt
      have HROW := Lib.hid hrow
      clear hv hrow
      go_wp2
      go_loopw [9, 10, 11, 24] (fun _ _ _ q wr => ∃ j : Nat, j ≤ (R s).length ∧ q = .int .i64 j ∧ Hid (IBox wr w.heap.size (fl (prt n R M s j))) ∧ Hid (Below w.heap.size w wr)) (fun _ _ _ q _ => (R s).length - (intOf q).toNat)
      case atStart => exact ⟨0, by omega, rfl, hbox, hb⟩
      case round =>
        obtain ⟨j, hj, rfl, hbi, hbb⟩ := hrel
        clear hbox hb hcell
        by_cases hjl : j < (R s).length
        · have i2 : (j : Int) < ((R s).length : Int) := by omega
          have hx : (R s)[j]? = some (R s)[j] := List.getElem?_eq_getElem hjl
          have hset := prt_set (n := n) R M hx
          have hfx := HF.out s j _ hlt hx
          obtain ⟨rb, rfl, k0, k1, k2, k3, k4⟩ := HROW.out j _ hx
          generalize (R s)[j] = x at *
          have hrb := World.block_lt_of_cell? _ _ k0
          have tr : ∀ (o : Nat) (v : Value), w.cell? ⟨rb, o, none⟩ = some v → wr.cell? ⟨rb, o, none⟩ = some v := fun o v h => (hbb.out.cell (p := ⟨rb, o, none⟩) hrb).trans h
          have m0 := tr _ _ k0
          have m1 := tr _ _ k1
          have m2 := tr _ _ k2
          have m3 := tr _ _ k3
          have m4 := tr _ _ k4
          have hfm : x.frm < M.length := by have := HN.out; omega
          have hy := HM.out.later hbb.out
          obtain ⟨y0, y1, y2, y3⟩ := four_at hy (List.getElem?_eq_getElem hfm)
          have eY : at0 M x.frm = M[x.frm] := at0_of (List.getElem?_eq_getElem hfm)
          rw [eY] at hset
          have hsb := hbb.out.size
          have i3 : (x.frm : Int) < (n : Int) := by omega
          generalize M[x.frm] = y at *
          have q := fl_four (prt_at R M j hlt)
          have hfs := fl_set (prt n R M s j) s (addS (accS M ((R s).take j)) (mulS x.q y)).w
          rw [hset] at hfs
          have c1 := fun W : World => times7_any x.q.w y W
          rw [mulS_w_l] at c1
          have hll : s * 4 + 3 < (fl (prt n R M s j)).length := fl_get_len (by rw [prt_len]; exact hlt)
          generalize accS M ((R s).take j) = t at *
          obtain ⟨q0, q1, q2, q3⟩ := q
          have e0 := wr_two t.a (mulS x.q y).a
          have f0 := wr_two' t.a (mulS x.q y).a
          rw [show wrap64 (t.a + (mulS x.q y).a) = (addS t (mulS x.q y)).w.a from rfl, show wrap64 t.a = t.w.a from rfl, show wrap64 (mulS x.q y).a = (mulS x.q y).w.a from rfl] at e0 f0
          have e1 := wr_two t.b (mulS x.q y).b
          have f1 := wr_two' t.b (mulS x.q y).b
          rw [show wrap64 (t.b + (mulS x.q y).b) = (addS t (mulS x.q y)).w.b from rfl, show wrap64 t.b = t.w.b from rfl, show wrap64 (mulS x.q y).b = (mulS x.q y).w.b from rfl] at e1 f1
          have e2 := wr_two t.c (mulS x.q y).c
          have f2 := wr_two' t.c (mulS x.q y).c
          rw [show wrap64 (t.c + (mulS x.q y).c) = (addS t (mulS x.q y)).w.c from rfl, show wrap64 t.c = t.w.c from rfl, show wrap64 (mulS x.q y).c = (mulS x.q y).w.c from rfl] at e2 f2
          have e3 := wr_two t.d (mulS x.q y).d
          have f3 := wr_two' t.d (mulS x.q y).d
          rw [show wrap64 (t.d + (mulS x.q y).d) = (addS t (mulS x.q y)).w.d from rfl, show wrap64 t.d = t.w.d from rfl, show wrap64 (mulS x.q y).d = (mulS x.q y).w.d from rfl] at e3 f3
          generalize t.w = t at *
          generalize (addS _ (mulS x.q y)).w = v at *
          generalize (mulS x.q y).w = r at *
          generalize x.q.w = xq at *
          generalize x.frm = xf at *
          have HFS := Lib.hid hfs
          have s0 := Lib.hid q0
          have s1 := Lib.hid (set_get_ne (v := v.a) q1 (by omega : s * 4 ≠ s * 4 + 1))
          have s2 := Lib.hid (set_get_ne (v := v.b) (set_get_ne (v := v.a) q2 (by omega : s * 4 ≠ s * 4 + 2)) (by omega : s * 4 + 1 ≠ s * 4 + 2))
          have s3 := Lib.hid (set_get_ne (v := v.c) (set_get_ne (v := v.b) (set_get_ne (v := v.a) q3 (by omega : s * 4 ≠ s * 4 + 3)) (by omega : s * 4 + 1 ≠ s * 4 + 3)) (by omega : s * 4 + 2 ≠ s * 4 + 3))
          have l0 := Lib.hid (show s * 4 < (fl (prt n R M s j)).length by omega)
          have l1 := Lib.hid (show s * 4 + 1 < ((fl (prt n R M s j)).set (s * 4) v.a).length by simp only [List.length_set]; omega)
          have l2 := Lib.hid (show s * 4 + 2 < (((fl (prt n R M s j)).set (s * 4) v.a).set (s * 4 + 1) v.b).length by simp only [List.length_set]; omega)
          have l3 := Lib.hid (show s * 4 + 3 < ((((fl (prt n R M s j)).set (s * 4) v.a).set (s * 4 + 1) v.b).set (s * 4 + 2) v.c).length by simp only [List.length_set]; omega)
          have j0 := ixS0 r.a r.b r.c r.d
          have j1 := ixS1 r.a r.b r.c r.d
          have j2 := ixS2 r.a r.b r.c r.d
          have j3 := ixS3 r.a r.b r.c r.d
          have hib := hbi.out.lt
          have hmw : b < wr.heap.size := by omega
          clear hset hfs q0 q1 q2 q3 hll hx hfx k0 k1 k2 k3 k4 tr hy eY hfm
          go_wp2
          have BX := hbi.out.later (show Below wr.heap.size wr (wr.alloc (.cells #[.int .i64 xf, .int .i64 xq.a, .int .i64 xq.b, .int .i64 xq.c, .int .i64 xq.d] 112)) by repeat (first | (with_reducible exact Below.refl _ _) | (with_reducible refine Below.setCell ?_ ?_ _) | (with_reducible refine Below.drew ?_) | (with_reducible refine Below.alloc ?_ ?_ _) | omega | (simp <;> omega)))
          have HBX := Lib.hid BX
          have HBB := Lib.hid (hbb.out.alloc (by omega) (.cells #[.int .i64 xf, .int .i64 xq.a, .int .i64 xq.b, .int .i64 xq.c, .int .i64 xq.d] 112))
          clear BX hbi hbb m0 m1 m2 m3 m4
          refine Tail.region_below (by kernel_rfl) (by kernel_rfl) ?_
          repeat (go_big_quiet_step (first | (with_reducible exact Calls.regrown_of (c1 _))))
          refine wpQuiet_nil ?_
          intro wb hwb
          have B0 := Lib.hid (HBX.out.later hwb)
          have G0 := Lib.hid (HBB.out.trans (hwb.mono HBB.out.size))
          clear HBX HBB hwb y0 y1 y2 y3 c1 hmw hib
          go_wp2
          refine wp_loop_rounds 5 ?_
          have hg0 := B0.out.lt
          have c0 := B0.out.at s0.out
          rw [rounds_succ]
          go_wp2
          refine Tail.region_tail_below 9 (by kernel_rfl) (by kernel_rfl) ?_
          simp only [List.take_succ_cons, List.take_zero, List.drop_succ_cons, List.drop_zero]
          repeat (go_big_quiet_step (fail))
          refine wpQuiet_nil ?_
          intro w1 hw1
          have BB := Lib.hid (B0.out.later hw1)
          have GG := Lib.hid (G0.out.trans (hw1.mono G0.out.size))
          clear c0 hg0 hw1
          have c0 := BB.out.at s0.out
          have fp := BB.out.free
          have hg0 := BB.out.lt
          go_wp2
          have B1 := Lib.hid (BB.out.put (s * 4) l0.out v.a)
          have G1 := Lib.hid (show Below w.heap.size w (w1.setCell ⟨w.heap.size, s * 4, none⟩ (.int .i64 v.a)) by have hgg := GG.out; repeat (first | (with_reducible exact Below.refl _ _) | (with_reducible refine Below.setCell ?_ ?_ _) | (with_reducible refine Below.drew ?_) | (with_reducible refine Below.alloc ?_ ?_ _) | (with_reducible refine Below.trans ?_ (Below.mono hgg ?_)) | (with_reducible exact hgg.size) | omega | (simp <;> omega) | (simp <;> (have s := hgg.size; omega)) | (have s0 := hgg.size; (try simp at s0); (try simp); omega)))
          clear c0 fp hg0 BB GG B0 G0 e0 f0
          generalize w1.setCell ⟨w.heap.size, s * 4, none⟩ (.int .i64 v.a) = W1 at *
          have hg1 := B1.out.lt
          have c1 := B1.out.at s1.out
          rw [rounds_succ]
          go_wp2
          refine Tail.region_tail_below 9 (by kernel_rfl) (by kernel_rfl) ?_
          simp only [List.take_succ_cons, List.take_zero, List.drop_succ_cons, List.drop_zero]
          repeat (go_big_quiet_step (fail))
          refine wpQuiet_nil ?_
          intro w2 hw2
          have BB := Lib.hid (B1.out.later hw2)
          have GG := Lib.hid (G1.out.trans (hw2.mono G1.out.size))
          clear c1 hg1 hw2
          have c1 := BB.out.at s1.out
          have fp := BB.out.free
          have hg1 := BB.out.lt
          go_wp2
          have B2 := Lib.hid (BB.out.put (s * 4 + 1) l1.out v.b)
          have G2 := Lib.hid (show Below w.heap.size w (w2.setCell ⟨w.heap.size, s * 4 + 1, none⟩ (.int .i64 v.b)) by have hgg := GG.out; repeat (first | (with_reducible exact Below.refl _ _) | (with_reducible refine Below.setCell ?_ ?_ _) | (with_reducible refine Below.drew ?_) | (with_reducible refine Below.alloc ?_ ?_ _) | (with_reducible refine Below.trans ?_ (Below.mono hgg ?_)) | (with_reducible exact hgg.size) | omega | (simp <;> omega) | (simp <;> (have s := hgg.size; omega)) | (have s0 := hgg.size; (try simp at s0); (try simp); omega)))
          clear c1 fp hg1 BB GG B1 G1 e1 f1
          generalize w2.setCell ⟨w.heap.size, s * 4 + 1, none⟩ (.int .i64 v.b) = W2 at *
          have hg2 := B2.out.lt
          have c2 := B2.out.at s2.out
          rw [rounds_succ]
          go_wp2
          refine Tail.region_tail_below 9 (by kernel_rfl) (by kernel_rfl) ?_
          simp only [List.take_succ_cons, List.take_zero, List.drop_succ_cons, List.drop_zero]
          repeat (go_big_quiet_step (fail))
          refine wpQuiet_nil ?_
          intro w3 hw3
          have BB := Lib.hid (B2.out.later hw3)
          have GG := Lib.hid (G2.out.trans (hw3.mono G2.out.size))
          clear c2 hg2 hw3
          have c2 := BB.out.at s2.out
          have fp := BB.out.free
          have hg2 := BB.out.lt
          go_wp2
          have B3 := Lib.hid (BB.out.put (s * 4 + 2) l2.out v.c)
          have G3 := Lib.hid (show Below w.heap.size w (w3.setCell ⟨w.heap.size, s * 4 + 2, none⟩ (.int .i64 v.c)) by have hgg := GG.out; repeat (first | (with_reducible exact Below.refl _ _) | (with_reducible refine Below.setCell ?_ ?_ _) | (with_reducible refine Below.drew ?_) | (with_reducible refine Below.alloc ?_ ?_ _) | (with_reducible refine Below.trans ?_ (Below.mono hgg ?_)) | (with_reducible exact hgg.size) | omega | (simp <;> omega) | (simp <;> (have s := hgg.size; omega)) | (have s0 := hgg.size; (try simp at s0); (try simp); omega)))
          clear c2 fp hg2 BB GG B2 G2 e2 f2
          generalize w3.setCell ⟨w.heap.size, s * 4 + 2, none⟩ (.int .i64 v.c) = W3 at *
          have hg3 := B3.out.lt
          have c3 := B3.out.at s3.out
          rw [rounds_succ]
          go_wp2
          refine Tail.region_tail_below 9 (by kernel_rfl) (by kernel_rfl) ?_
          simp only [List.take_succ_cons, List.take_zero, List.drop_succ_cons, List.drop_zero]
          repeat (go_big_quiet_step (fail))
          refine wpQuiet_nil ?_
          intro w4 hw4
          have BB := Lib.hid (B3.out.later hw4)
          have GG := Lib.hid (G3.out.trans (hw4.mono G3.out.size))
          clear c3 hg3 hw4
          have c3 := BB.out.at s3.out
          have fp := BB.out.free
          have hg3 := BB.out.lt
          go_wp2
          have B4 := Lib.hid (BB.out.put (s * 4 + 3) l3.out v.d)
          have G4 := Lib.hid (show Below w.heap.size w (w4.setCell ⟨w.heap.size, s * 4 + 3, none⟩ (.int .i64 v.d)) by have hgg := GG.out; repeat (first | (with_reducible exact Below.refl _ _) | (with_reducible refine Below.setCell ?_ ?_ _) | (with_reducible refine Below.drew ?_) | (with_reducible refine Below.alloc ?_ ?_ _) | (with_reducible refine Below.trans ?_ (Below.mono hgg ?_)) | (with_reducible exact hgg.size) | omega | (simp <;> omega) | (simp <;> (have s := hgg.size; omega)) | (have s0 := hgg.size; (try simp at s0); (try simp); omega)))
          clear c3 fp hg3 BB GG B3 G3 e3 f3
          generalize w4.setCell ⟨w.heap.size, s * 4 + 3, none⟩ (.int .i64 v.d) = W4 at *
          rw [rounds_succ]
          go_wp2
          exact ⟨⟨j + 1, by omega, by go_num, by rw [HFS.out] at B4; exact B4, G4⟩, by simp [intOf]; omega⟩
        · obtain rfl : j = (R s).length := by omega
          have hbn := Lib.hid (show IBox wr w.heap.size (fl (prt n R M (s + 1) 0)) by rw [← prt_next]; exact hbi.out)
          clear hbi
          go_wp2
          exact ⟨⟨s + 1, by omega, by go_num, hbn, hbb⟩, by simp [intOf]; omega⟩
    · obtain rfl : s = n := by omega
      have hbn := Lib.hid (show IBox wr w.heap.size (fl (hopR s R M)) by rw [← prt_end]; exact hbox.out)
      have HLN := Lib.hid (show (hopR s R M).length = s from tab_len _ _)
      clear hbox
      go_wp2
      go_ret
      exact ⟨⟨w.heap.size, s, by rw [HLN.out]; rfl, hbn.out, Nat.le_refl _⟩, hb.out⟩
end Go.Proofs.Ytmnlfojcofdaeaa
