/- Sums of vectors in place, multiples, differences and products of vectors, as the program and the document's answers make them.
Conditions: the lists lie in memory as it is written at each theorem. -/
import Derived.Test.YtmnlfojcofdaeaaAddC
import Derived.Maps.AppendAt
namespace Go.Proofs.Ytmnlfojcofdaeaa
set_option linter.unusedVariables false
set_option linter.unusedSimpArgs false
set_option maxRecDepth 1000000
open Go.RowKit
open Um Tm Fm

theorem grown_below {w w1 : World} {row : Option Nat} (h : Below w.heap.size w w1) : w.grownBy w1 row := ⟨h.os, h.tape, h.output, h.size, fun k hk _ => h.block k hk⟩
theorem liesI_grown {w w1 : World} {b off : Nat} {l : List Int} {row : Option Nat} (h : LiesI w b off l) (hg : w.grownBy w1 row) (hne : some b ≠ row) : LiesI w1 b off l := fun i x hx => hg.cell (h i x hx) hne
set_option maxHeartbeats 6400000 in
theorem addV_any (k : Int) (g gc : Nat) (po : Option Addr) (pc : Nat) (A M : List Sp) (w : World) (hA : IBox w g (fl A)) (hM : LiesOI w po (fl M)) (hne : ∀ b off, po = some ⟨b, off, none⟩ → b ≠ g) (hl : A.length = M.length) (hlen : M.length ≤ 1000000) : Calls Try.prog 98 #[.slice (some ⟨g, 0, none⟩) M.length gc, .int .i64 k, .slice po M.length pc] w fun e w' => e = .returned (.tuple #[]) ∧ IBox w' g (fl (axp k A M)) ∧ w.grownBy w' (some g) := by
  have HA := Lib.hid (show IBox w g (fl (axK k A M 0)) by rw [axK_zero]; exact hA)
  have HM := Lib.hid hM
  have HN := Lib.hid hne
  have HL := Lib.hid hl
  clear hA hM hne hl
  have kc := @Tail.cell_re
  have kc1 : ∀ (W : World) (o : Obj) (d : Nat) (os : Array Obj) (a : Addr), a.block ≤ W.heap.size → (Sort.grow (redrawn (W.alloc o) d) os).cell? a = (W.alloc o).cell? a := fun W o d os a h => Tail.cell_re (W.alloc o) d os a (Nat.lt_of_le_of_lt h (by simp))
  go_enter Try.func98, Try.ntmps98
  go_wp2
  go_loopw [6, 7, 8, 9, 12] (fun _ _ _ _ q wr => ∃ m : Nat, m ≤ M.length ∧ q = .int .i64 m ∧ Hid (IBox wr g (fl (axK k A M m))) ∧ Hid (w.grownBy wr (some g))) (fun _ _ _ _ q _ => M.length - (intOf q).toNat)
  case atStart => exact ⟨0, by omega, rfl, HA, Lib.hid (grown_below (Below.refl _ _))⟩
  case round =>
    obtain ⟨m, hm, rfl, hbox, hgr⟩ := hrel
    by_cases hlt : m < M.length
    · obtain ⟨pb, off, rfl, hpl⟩ := lies_some HM.out (List.getElem?_eq_getElem hlt)
      have i1 : (m : Int) < (M.length : Int) := by omega
      have hpg := HN.out _ _ rfl
      have hml : m < A.length := by have := HL.out; omega
      obtain ⟨x0, x1, x2, x3⟩ := four_at (liesI_grown hpl hgr.out (by simp; exact hpg)) (List.getElem?_eq_getElem hlt)
      have hlw := World.block_lt_of_cell? _ _ x0
      have hgw := hbox.out.lt
      obtain ⟨q0, q1, q2, q3⟩ := fl_four (axK_at k A M hml)
      have hs := axK_set k A M (m := m)
      have e0 : at0 M m = M[m] := at0_of (List.getElem?_eq_getElem hlt)
      rw [e0] at hs
      have hll : m * 4 + 3 < (fl (axK k A M m)).length := fl_get_len (by rw [axK_len]; exact hml)
      generalize M[m] = x at *
      generalize at0 A m = a at *
      have hfs := fl_set (axK k A M m) m (axS k a x)
      rw [hs] at hfs
      have HF := Lib.hid hfs
      have s0 := Lib.hid q0
      have s1 := Lib.hid (set_get_ne (v := (axS k a x).a) q1 (by omega : m * 4 ≠ m * 4 + 1))
      have s2 := Lib.hid (set_get_ne (v := (axS k a x).b) (set_get_ne (v := (axS k a x).a) q2 (by omega : m * 4 ≠ m * 4 + 2)) (by omega : m * 4 + 1 ≠ m * 4 + 2))
      have s3 := Lib.hid (set_get_ne (v := (axS k a x).c) (set_get_ne (v := (axS k a x).b) (set_get_ne (v := (axS k a x).a) q3 (by omega : m * 4 ≠ m * 4 + 3)) (by omega : m * 4 + 1 ≠ m * 4 + 3)) (by omega : m * 4 + 2 ≠ m * 4 + 3))
      have l0 := Lib.hid (show m * 4 < (fl (axK k A M m)).length by omega)
      have l1 := Lib.hid (show m * 4 + 1 < ((fl (axK k A M m)).set (m * 4) (axS k a x).a).length by simp only [List.length_set]; omega)
      have l2 := Lib.hid (show m * 4 + 2 < (((fl (axK k A M m)).set (m * 4) (axS k a x).a).set (m * 4 + 1) (axS k a x).b).length by simp only [List.length_set]; omega)
      have l3 := Lib.hid (show m * 4 + 3 < ((((fl (axK k A M m)).set (m * 4) (axS k a x).a).set (m * 4 + 1) (axS k a x).b).set (m * 4 + 2) (axS k a x).c).length by simp only [List.length_set]; omega)
      have e0 := wr_add a.a k x.a
      have f0 := wr_add' a.a k x.a
      rw [show wrap64 (a.a + k * x.a) = (axS k a x).a from rfl] at e0 f0
      have e1 := wr_add a.b k x.b
      have f1 := wr_add' a.b k x.b
      rw [show wrap64 (a.b + k * x.b) = (axS k a x).b from rfl] at e1 f1
      have e2 := wr_add a.c k x.c
      have f2 := wr_add' a.c k x.c
      rw [show wrap64 (a.c + k * x.c) = (axS k a x).c from rfl] at e2 f2
      have e3 := wr_add a.d k x.d
      have f3 := wr_add' a.d k x.d
      rw [show wrap64 (a.d + k * x.d) = (axS k a x).d from rfl] at e3 f3
      generalize (axS k a x).a = v0 at *
      generalize (axS k a x).b = v1 at *
      generalize (axS k a x).c = v2 at *
      generalize (axS k a x).d = v3 at *
      have j0 := ixS0 x.a x.b x.c x.d
      have j1 := ixS1 x.a x.b x.c x.d
      have j2 := ixS2 x.a x.b x.c x.d
      have j3 := ixS3 x.a x.b x.c x.d
      clear hs hfs q0 q1 q2 q3 hll hml hpl
      go_wp2
      have B0 := Lib.hid (hbox.out.later (show Below wr.heap.size wr (wr.alloc (.cells #[.int .i64 x.a, .int .i64 x.b, .int .i64 x.c, .int .i64 x.d] 64)) by repeat (first | (with_reducible exact Below.refl _ _) | (with_reducible refine Below.setCell ?_ ?_ _) | (with_reducible refine Below.drew ?_) | (with_reducible refine Below.alloc ?_ ?_ _) | omega | (simp <;> omega))))
      have G0 := Lib.hid (hgr.out.trans (World.grownBy_alloc wr (.cells #[.int .i64 x.a, .int .i64 x.b, .int .i64 x.c, .int .i64 x.d] 64) (some g)))
      clear hbox hgr hgw hlw x0 x1 x2 x3
      generalize wr.alloc (.cells #[.int .i64 x.a, .int .i64 x.b, .int .i64 x.c, .int .i64 x.d] 64) = W0 at *
      refine wp_loop_rounds 5 ?_
      have hg0 := B0.out.lt
      have c0 := B0.out.at s0.out
      rw [rounds_succ]
      go_wp2
      refine Tail.region_tail_below 11 (by kernel_rfl) (by kernel_rfl) ?_
      simp only [List.take_succ_cons, List.take_zero, List.drop_succ_cons, List.drop_zero]
      repeat (go_big_quiet_step (fail))
      refine wpQuiet_nil ?_
      intro w1 hw1
      have BB := Lib.hid (B0.out.later hw1)
      have GG := Lib.hid (G0.out.trans (grown_below hw1))
      clear c0 hg0 hw1
      have c0 := BB.out.at s0.out
      have fp := BB.out.free
      have hg0 := BB.out.lt
      go_wp2
      have B1 := Lib.hid (BB.out.put (m * 4) l0.out v0)
      have G1 := Lib.hid (GG.out.trans (grown_setCell w1 ⟨g, m * 4, none⟩ (.int .i64 v0)))
      clear c0 fp hg0 BB GG B0 G0 e0 f0
      generalize w1.setCell ⟨g, m * 4, none⟩ (.int .i64 v0) = W1 at *
      have hg1 := B1.out.lt
      have c1 := B1.out.at s1.out
      rw [rounds_succ]
      go_wp2
      refine Tail.region_tail_below 11 (by kernel_rfl) (by kernel_rfl) ?_
      simp only [List.take_succ_cons, List.take_zero, List.drop_succ_cons, List.drop_zero]
      repeat (go_big_quiet_step (fail))
      refine wpQuiet_nil ?_
      intro w2 hw2
      have BB := Lib.hid (B1.out.later hw2)
      have GG := Lib.hid (G1.out.trans (grown_below hw2))
      clear c1 hg1 hw2
      have c1 := BB.out.at s1.out
      have fp := BB.out.free
      have hg1 := BB.out.lt
      go_wp2
      have B2 := Lib.hid (BB.out.put (m * 4 + 1) l1.out v1)
      have G2 := Lib.hid (GG.out.trans (grown_setCell w2 ⟨g, m * 4 + 1, none⟩ (.int .i64 v1)))
      clear c1 fp hg1 BB GG B1 G1 e1 f1
      generalize w2.setCell ⟨g, m * 4 + 1, none⟩ (.int .i64 v1) = W2 at *
      have hg2 := B2.out.lt
      have c2 := B2.out.at s2.out
      rw [rounds_succ]
      go_wp2
      refine Tail.region_tail_below 11 (by kernel_rfl) (by kernel_rfl) ?_
      simp only [List.take_succ_cons, List.take_zero, List.drop_succ_cons, List.drop_zero]
      repeat (go_big_quiet_step (fail))
      refine wpQuiet_nil ?_
      intro w3 hw3
      have BB := Lib.hid (B2.out.later hw3)
      have GG := Lib.hid (G2.out.trans (grown_below hw3))
      clear c2 hg2 hw3
      have c2 := BB.out.at s2.out
      have fp := BB.out.free
      have hg2 := BB.out.lt
      go_wp2
      have B3 := Lib.hid (BB.out.put (m * 4 + 2) l2.out v2)
      have G3 := Lib.hid (GG.out.trans (grown_setCell w3 ⟨g, m * 4 + 2, none⟩ (.int .i64 v2)))
      clear c2 fp hg2 BB GG B2 G2 e2 f2
      generalize w3.setCell ⟨g, m * 4 + 2, none⟩ (.int .i64 v2) = W3 at *
      have hg3 := B3.out.lt
      have c3 := B3.out.at s3.out
      rw [rounds_succ]
      go_wp2
      refine Tail.region_tail_below 11 (by kernel_rfl) (by kernel_rfl) ?_
      simp only [List.take_succ_cons, List.take_zero, List.drop_succ_cons, List.drop_zero]
      repeat (go_big_quiet_step (fail))
      refine wpQuiet_nil ?_
      intro w4 hw4
      have BB := Lib.hid (B3.out.later hw4)
      have GG := Lib.hid (G3.out.trans (grown_below hw4))
      clear c3 hg3 hw4
      have c3 := BB.out.at s3.out
      have fp := BB.out.free
      have hg3 := BB.out.lt
      go_wp2
      have B4 := Lib.hid (BB.out.put (m * 4 + 3) l3.out v3)
      have G4 := Lib.hid (GG.out.trans (grown_setCell w4 ⟨g, m * 4 + 3, none⟩ (.int .i64 v3)))
      clear c3 fp hg3 BB GG B3 G3 e3 f3
      generalize w4.setCell ⟨g, m * 4 + 3, none⟩ (.int .i64 v3) = W4 at *
      rw [rounds_succ]
      go_wp2
      exact ⟨⟨m + 1, by omega, by go_num, by rw [HF.out] at B4; exact B4, G4⟩, by simp [intOf]; omega⟩
    · obtain rfl : m = M.length := by omega
      go_wp2
      go_end0
      exact ⟨rfl, by have := hbox.out; rwa [← HL.out, axK_end] at this, hgr.out⟩
end Go.Proofs.Ytmnlfojcofdaeaa
