/- ChanceWeights: the weights of the values of a link, and which weights are right, are what the document says, for all fields, weights and links.
Conditions: none. -/
import Derived.Test.YtpfhjdmgkckjfaaGreatDoorRRwwC
import Derived.Test.YtpfhjdmgkckjfaaGreatDoorRSane5
import Derived.Test.YtpfhjdmgkckjfaaGreatDoorROpenW5
import Derived.Test.YtpfhjdmgkckjfaaGreatDoorRCold
import Derived.Test.YtpfhjdmgkckjfaaGreatDoorRLaidS
import Derived.Test.YtpfhjdmgkckjfaaGreatDoorRThrM
import Derived.ChangeKeysEq
import Derived.Deep.CutRange
namespace Go.Proofs.YtpfhjdmgkckjfaaGreatDoor
set_option linter.unusedVariables false
set_option linter.unusedSimpArgs false
set_option maxRecDepth 1000000
open Go.ChangeShapes Go.WideShapes Go.ChangeAt Go.RowKit
open Um Tm Cm
open Go.Sort

theorem cells24I : Tryz.prog.cellsOf 3 = 1 := by kernel_rfl
theorem eq24 (x0 x1 x2 x3 x4 x5 x6 x7 x8 x9 x10 x11 x12 x13 x14 x15 x16 x17 x18 x19 x20 x21 x22 x23 : Int) (W : World) : Sem.run Tryz.prog (Op.equalIn 10000 29 (.agg #[.int .i64 x0, .int .i64 x1, .int .i64 x2, .int .i64 x3, .int .i64 x4, .int .i64 x5, .int .i64 x6, .int .i64 x7, .int .i64 x8, .int .i64 x9, .int .i64 x10, .int .i64 x11, .int .i64 x12, .int .i64 x13, .int .i64 x14, .int .i64 x15, .int .i64 x16, .int .i64 x17, .int .i64 x18, .int .i64 x19, .int .i64 x20, .int .i64 x21, .int .i64 x22, .int .i64 x23]) (.agg #[.int .i64 x0, .int .i64 x1, .int .i64 x2, .int .i64 x3, .int .i64 x4, .int .i64 x5, .int .i64 x6, .int .i64 x7, .int .i64 x8, .int .i64 x9, .int .i64 x10, .int .i64 x11, .int .i64 x12, .int .i64 x13, .int .i64 x14, .int .i64 x15, .int .i64 x16, .int .i64 x17, .int .i64 x18, .int .i64 x19, .int .i64 x20, .int .i64 x21, .int .i64 x22, .int .i64 x23])) W = .ok true W := by
  obtain ⟨i, hi⟩ := info3
  have h := run_equalIn_array W 9999 #[.int .i64 x0, .int .i64 x1, .int .i64 x2, .int .i64 x3, .int .i64 x4, .int .i64 x5, .int .i64 x6, .int .i64 x7, .int .i64 x8, .int .i64 x9, .int .i64 x10, .int .i64 x11, .int .i64 x12, .int .i64 x13, .int .i64 x14, .int .i64 x15, .int .i64 x16, .int .i64 x17, .int .i64 x18, .int .i64 x19, .int .i64 x20, .int .i64 x21, .int .i64 x22, .int .i64 x23] #[.int .i64 x0, .int .i64 x1, .int .i64 x2, .int .i64 x3, .int .i64 x4, .int .i64 x5, .int .i64 x6, .int .i64 x7, .int .i64 x8, .int .i64 x9, .int .i64 x10, .int .i64 x11, .int .i64 x12, .int .i64 x13, .int .i64 x14, .int .i64 x15, .int .i64 x16, .int .i64 x17, .int .i64 x18, .int .i64 x19, .int .i64 x20, .int .i64 x21, .int .i64 x22, .int .i64 x23] Tryz.underlying29 hi
  rw [show (10000 : Nat) = 9999 + 1 from rfl, h, cells3, show List.range 24 = [0, 1, 2, 3, 4, 5, 6, 7, 8, 9, 10, 11, 12, 13, 14, 15, 16, 17, 18, 19, 20, 21, 22, 23] from rfl]
  simp [Op.eqItems, go_sem]
theorem quiet_load_row {P : Program} {w : World} {o : Oper} {a : Act} {v : Value} {K : Act → Prop} (ty : TypeId) (x : Operand) (b : Nat) (ho : o.op = .load ty x) (hx : a.eval x = .pointer (some ⟨b, 0, none⟩))
    (hl : ∀ p : Regrown, (loadVar ty ⟨b, 0, none⟩).run P (grow (redrawn w p.d) p.os) = .ok v (grow (redrawn w p.d) p.os)) (hk : K (a.put o.dst v)) : o.quiet P a (fun w' => ∃ p : Regrown, w' = grow (redrawn w p.d) p.os) K := by
  refine ⟨v, ?_, hk⟩
  rintro w' ⟨p, rfl⟩
  unfold Oper.quietAt execOp
  simp only [ho, hx, Instr.loadAt, Instr.sureAddr, Sem.run_bind, Sem.run_pure, Result.andThen_ok, hl p]
  exact ⟨rfl, rfl⟩
theorem long5_any (a b c : Int) (ao : Option Addr) (cap : Nat) (L : List Q) (d : Bool) (w : World) (h : (200 < L.length ∧ d = true) ∨ (L.length ≤ 200 ∧ d = false)) : Calls Tryz.prog 11 #[.agg #[.int .i64 a, .int .i64 b, .int .i64 c, .slice ao L.length cap]] w fun e w' => e = .returned (.bool d) ∧ Below w.heap.size w w' := by
  rcases h with ⟨h, rfl⟩ | ⟨h, rfl⟩
  · have h2 : (L.length : Int) > 200 := by omega
    go_enter Tryz.func11, Tryz.ntmps11
    go_wp2
    go_ret
    exact ⟨rfl, ba1⟩
  · have h2 : ¬ (L.length : Int) > 200 := by omega
    go_enter Tryz.func11, Tryz.ntmps11
    go_wp2
    go_ret
    exact ⟨rfl, ba1⟩
set_option maxHeartbeats 3200000 in
theorem cWt_l (a b c p0 p1 p2 p3 p4 l : Int) (ao : Option Addr) (cap : Nat) (L : List Q) (w : World) (h : 200 < L.length) : Calls Tryz.prog 3 #[.agg #[.int .i64 a, .int .i64 b, .int .i64 c, .slice ao L.length cap], .agg #[.int .i64 p0, .int .i64 p1, .int .i64 p2, .int .i64 p3, .int .i64 p4], .int .i64 l] w fun e w' => e = .returned (.bool true) ∧ Below w.heap.size w w' := by
  have kn := sane5_any
  have c0 := fun W : World => long5_any a b c ao cap L true W (.inl ⟨h, rfl⟩)
  go_enter Tryz.func3, Tryz.ntmps3
  go_wp2_with (fail)
  refine (c0 _).mono ?_
  rintro e w1 ⟨rfl, hw1⟩
  have bw1 : Below w.heap.size w w1 := bel2 hw1
  have F1 := Lib.hid (FW.n2a.later hw1)
  have E1 := Lib.hid (C5.n2b.later hw1)
  have HB1 := Lib.hid bw1
  clear hw1 bw1
  go_wp2_with (fail)
  refine (kn _).mono ?_
  rintro e w2 ⟨rfl, hw2⟩
  have bw2 : Below w1.heap.size w1 w2 := hw2
  have F2 := Lib.hid (F1.out.later bw2)
  have E2 := Lib.hid (E1.out.later bw2)
  have HB2 := Lib.hid (HB1.out.trans (bw2.mono HB1.out.size))
  clear hw2 bw2 F1 E1 HB1
  go_wp2
  go_ret
  exact ⟨rfl, HB2.out⟩
theorem row_later {W W1 : World} {m : Nat} {A : Array Value} (h : W.heap[m]? = some (.cells A 29 (0, 0))) (hb : Below W.heap.size W W1) : W1.heap[m]? = some (.cells A 29 (0, 0)) := (hb.block m (Array.getElem?_eq_some_iff.1 h).1).trans h
theorem row_new (W : World) (A : Array Value) : ((W.alloc (.cells #[.int .i64 0, .int .i64 0, .int .i64 0, .int .i64 0, .int .i64 0, .int .i64 0, .int .i64 0, .int .i64 0, .int .i64 0, .int .i64 0, .int .i64 0, .int .i64 0, .int .i64 0, .int .i64 0, .int .i64 0, .int .i64 0, .int .i64 0, .int .i64 0, .int .i64 0, .int .i64 0, .int .i64 0, .int .i64 0, .int .i64 0, .int .i64 0] 29)).setRow W.heap.size A).heap[W.heap.size]? = some (.cells A 29 (0, 0)) := setRow_heap _ _ _ A 29 (0, 0) (ABx.news (w := W) (T := 29) #[.int .i64 0, .int .i64 0, .int .i64 0, .int .i64 0, .int .i64 0, .int .i64 0, .int .i64 0, .int .i64 0, .int .i64 0, .int .i64 0, .int .i64 0, .int .i64 0, .int .i64 0, .int .i64 0, .int .i64 0, .int .i64 0, .int .i64 0, .int .i64 0, .int .i64 0, .int .i64 0, .int .i64 0, .int .i64 0, .int .i64 0, .int .i64 0]).h
theorem row_below (W : World) (A : Array Value) : Below W.heap.size W ((W.alloc (.cells #[.int .i64 0, .int .i64 0, .int .i64 0, .int .i64 0, .int .i64 0, .int .i64 0, .int .i64 0, .int .i64 0, .int .i64 0, .int .i64 0, .int .i64 0, .int .i64 0, .int .i64 0, .int .i64 0, .int .i64 0, .int .i64 0, .int .i64 0, .int .i64 0, .int .i64 0, .int .i64 0, .int .i64 0, .int .i64 0, .int .i64 0, .int .i64 0] 29)).setRow W.heap.size A) := by
  have b0 : Below W.heap.size W (W.alloc (.cells #[.int .i64 0, .int .i64 0, .int .i64 0, .int .i64 0, .int .i64 0, .int .i64 0, .int .i64 0, .int .i64 0, .int .i64 0, .int .i64 0, .int .i64 0, .int .i64 0, .int .i64 0, .int .i64 0, .int .i64 0, .int .i64 0, .int .i64 0, .int .i64 0, .int .i64 0, .int .i64 0, .int .i64 0, .int .i64 0, .int .i64 0, .int .i64 0] 29)) := ba1
  exact b0.grown (grown_setRow _ W.heap.size A) b0.size (fun i hi => by simp at hi; omega)
set_option maxHeartbeats 12800000 in
theorem cWt_g (a b c p0 p1 p2 p3 p4 l r q : Int) (ao : Option Addr) (cap : Nat) (L : List Q) (w : World) (k1 : L.length ≤ 200) (hm : LiesO w ao L) (hst : StA w) (A : Array Value) (hsz : (Tryz.prog.info? 29).map (·.size) = some A.size) (hol : ((#[.int .i64 0, .int .i64 0, .int .i64 0, .int .i64 0, .int .i64 0, .int .i64 0, .int .i64 0, .int .i64 0, .int .i64 0, .int .i64 0, .int .i64 0, .int .i64 0, .int .i64 0, .int .i64 0, .int .i64 0, .int .i64 0, .int .i64 0, .int .i64 0, .int .i64 0, .int .i64 0, .int .i64 0, .int .i64 0, .int .i64 0, .int .i64 0] : Array Value).toList.toArray).size = A.size) (hone : A.all (·.oneCell') = true)
    (qE : ∀ W : World, Sem.run Tryz.prog (Op.equalIn 10000 29 (.agg A) (.agg A)) W = .ok true W)
    (c1 : ∀ (W : World), LiesO W ao L → StA W → Calls Tryz.prog 13 #[.agg #[.int .i64 a, .int .i64 b, .int .i64 c, .slice ao L.length cap], .agg #[.int .i64 p0, .int .i64 p1, .int .i64 p2, .int .i64 p3, .int .i64 p4], .int .i64 l] W fun e w' => e = .returned (.tuple #[.agg A, .int .i64 r]) ∧ Below W.heap.size W w')
    (c2 : ∀ (W : World), LiesO W ao L → Calls Tryz.prog 14 #[.agg #[.int .i64 a, .int .i64 b, .int .i64 c, .slice ao L.length cap], .agg #[.int .i64 p0, .int .i64 p1, .int .i64 p2, .int .i64 p3, .int .i64 p4], .int .i64 l] W fun e w' => e = .returned (.tuple #[.agg A, .int .i64 r]) ∧ Below W.heap.size W w')
    (c3 : ∀ (W : World), Calls Tryz.prog 15 #[.agg #[.int .i64 p0, .int .i64 p1, .int .i64 p2, .int .i64 p3, .int .i64 p4]] W fun e w' => e = .returned (.int .i64 q) ∧ Below W.heap.size W w')
    (c4 : ∀ (W : World), Calls Tryz.prog 16 #[.agg #[.int .i64 p0, .int .i64 p1, .int .i64 p2, .int .i64 p3, .int .i64 p4]] W fun e w' => e = .returned (.int .i64 q) ∧ Below W.heap.size W w') : Calls Tryz.prog 3 #[.agg #[.int .i64 a, .int .i64 b, .int .i64 c, .slice ao L.length cap], .agg #[.int .i64 p0, .int .i64 p1, .int .i64 p2, .int .i64 p3, .int .i64 p4], .int .i64 l] w fun e w' => e = .returned (.bool true) ∧ Below w.heap.size w w' := by
  have kn := sane5_any
  have c0 := fun W : World => long5_any a b c ao cap L false W (.inr ⟨k1, rfl⟩)
  have t1 : (r == r) = true := by simp
  have t2 : (q == q) = true := by simp
  have H0 := Lib.hid hm
  have S0 := Lib.hid hst
  have SZ := Lib.hid hsz
  have OL := Lib.hid hol
  have ON := Lib.hid hone
  clear hm hst k1 hsz hol hone
  go_enter Tryz.func3, Tryz.ntmps3
  go_wp2_with (fail)
  refine (c0 _).mono ?_
  rintro e w1 ⟨rfl, hw1⟩
  have bw1 : Below w.heap.size w w1 := bel2 hw1
  have F1 := Lib.hid (FW.n2a.later hw1)
  have E1 := Lib.hid (C5.n2b.later hw1)
  have H1 := Lib.hid (H0.out.later bw1)
  have S1 := Lib.hid (S0.out.later bw1)
  have HB1 := Lib.hid bw1
  clear hw1 bw1 H0 S0
  obtain ⟨f1_0, f1_1, f1_2, f1_3, f1_4, f1_5⟩ := F1.out
  obtain ⟨e1_0, e1_1, e1_2, e1_3, e1_4, e1_5, e1_6⟩ := E1.out
  go_wp2_with (fail)
  refine (c1 _ (H1.out) (S1.out)).mono ?_
  rintro e w2 ⟨rfl, hw2⟩
  clear f1_0 f1_1 f1_2 f1_3 f1_4 f1_5 e1_0 e1_1 e1_2 e1_3 e1_4 e1_5 e1_6
  have bw2 : Below w1.heap.size w1 w2 := hw2
  have H2 := Lib.hid (H1.out.later bw2)
  have S2 := Lib.hid (S1.out.later bw2)
  have F2 := Lib.hid (F1.out.later bw2)
  have E2 := Lib.hid (E1.out.later bw2)
  have HB2 := Lib.hid (HB1.out.trans (bw2.mono HB1.out.size))
  clear hw2 bw2 H1 S1 F1 E1 HB1
  have tz := Lib.hid (ABx.news (w := w2) (T := 29) #[.int .i64 0, .int .i64 0, .int .i64 0, .int .i64 0, .int .i64 0, .int .i64 0, .int .i64 0, .int .i64 0, .int .i64 0, .int .i64 0, .int .i64 0, .int .i64 0, .int .i64 0, .int .i64 0, .int .i64 0, .int .i64 0, .int .i64 0, .int .i64 0, .int .i64 0, .int .i64 0, .int .i64 0, .int .i64 0, .int .i64 0, .int .i64 0])
  have Fx := Lib.hid (F2.out.later (row_below w2 A))
  have Ex := Lib.hid (E2.out.later (row_below w2 A))
  have Hx := Lib.hid (H2.out.later (row_below w2 A))
  have Ax := Lib.hid (row_new w2 A)
  have Bx := Lib.hid (HB2.out.trans ((row_below w2 A).mono HB2.out.size))
  clear F2 E2 H2 S2 HB2 c1
  go_upto_region 4 with (refine wpList_store_row rfl 29 (.tmp 7) (.tmp 19) rfl w2.heap.size A rfl rfl 29 _ tz.out.h SZ.out OL.out ON.out ?_)
  clear tz
  generalize (w2.alloc (.cells #[.int .i64 0, .int .i64 0, .int .i64 0, .int .i64 0, .int .i64 0, .int .i64 0, .int .i64 0, .int .i64 0, .int .i64 0, .int .i64 0, .int .i64 0, .int .i64 0, .int .i64 0, .int .i64 0, .int .i64 0, .int .i64 0, .int .i64 0, .int .i64 0, .int .i64 0, .int .i64 0, .int .i64 0, .int .i64 0, .int .i64 0, .int .i64 0] 29)).setRow w2.heap.size A = X at *
  generalize w2.heap.size = xb at *
  go_cut [7, 8, 9, 10] from 7 to 27 (fun s7 s8 s9 s10 wx => ∃ yb : Nat, s7 = .pointer (some ⟨xb, 0, none⟩) ∧ s8 = .int .i64 r ∧ s9 = .pointer (some ⟨yb, 0, none⟩) ∧ s10 = .int .i64 r ∧ Hid (C5 wx (w.heap.size + 1) (.int .i64 p0) (.int .i64 p1) (.int .i64 p2) (.int .i64 p3) (.int .i64 p4)) ∧ Hid (wx.heap[xb]? = some (.cells A 29 (0, 0))) ∧ Hid (wx.heap[yb]? = some (.cells A 29 (0, 0))) ∧ Hid (Below w.heap.size w wx))
  case first =>
    obtain ⟨f0, f1, f2, f3, ff, fl⟩ := Fx.out
    obtain ⟨e0, e1, e2, e3, e4, ef, el⟩ := Ex.out
    go_wp2_with (fail)
    refine (c2 _ Hx.out).mono ?_
    rintro e y1 ⟨rfl, hy1⟩
    have tz := Lib.hid (ABx.news (w := y1) (T := 29) #[.int .i64 0, .int .i64 0, .int .i64 0, .int .i64 0, .int .i64 0, .int .i64 0, .int .i64 0, .int .i64 0, .int .i64 0, .int .i64 0, .int .i64 0, .int .i64 0, .int .i64 0, .int .i64 0, .int .i64 0, .int .i64 0, .int .i64 0, .int .i64 0, .int .i64 0, .int .i64 0, .int .i64 0, .int .i64 0, .int .i64 0, .int .i64 0])
    have Ey := Lib.hid ((Ex.out.later hy1).later (row_below y1 A))
    have Ay := Lib.hid (row_later (row_later Ax.out hy1) (row_below y1 A))
    have Cy := Lib.hid (row_new y1 A)
    have by1 := Bx.out.trans (hy1.mono Bx.out.size)
    have By := Lib.hid (by1.trans ((row_below y1 A).mono by1.size))
    clear hy1 by1 Fx Ex Hx Ax Bx f0 f1 f2 f3 ff fl e0 e1 e2 e3 e4 ef el c2
    go_wp2_with (refine wpList_store_row rfl 29 (.tmp 9) (.tmp 26) rfl y1.heap.size A rfl rfl 29 _ tz.out.h SZ.out OL.out ON.out ?_)
    go_meet
    exact ⟨_, rfl, rfl, rfl, rfl, Ey, Ay, Cy, By⟩
  case rest =>
  obtain ⟨yb, rfl, rfl, rfl, rfl, Ey, Ay, Cy, By⟩ := hcut
  clear Fx Ex Hx Ax Bx c2 c0
  as_aux_lemma =>
    have LX := Lib.hid (fun p : Regrown => run_loadVar_row (P := Tryz.prog) _ xb 29 29 A (0, 0) _ (row_later Ay.out (below_regrown _ p.d p.os)) Tryz.underlying29 rfl SZ.out)
    have LY := Lib.hid (fun p : Regrown => run_loadVar_row (P := Tryz.prog) _ yb 29 29 A (0, 0) _ (row_later Cy.out (below_regrown _ p.d p.os)) Tryz.underlying29 rfl SZ.out)
    obtain ⟨e0, e1, e2, e3, e4, ef, el⟩ := Ey.out
    have kc := @Tail.cell_re
    go_wp2_with (fail)
    refine Tail.region_below (by kernel_rfl) (by kernel_rfl) ?_
    repeat (first
      | go_big_quiet_skip
      | (go_big_quiet_want
         first
         | (refine quiet_load_row 29 (.tmp 7) xb rfl rfl LX.out ?_; simp only [Act.put, List.setIfInBounds_toArray, List.set_cons_succ, List.set_cons_zero]; go_big_quiet_on)
         | (refine quiet_load_row 29 (.tmp 9) yb rfl rfl LY.out ?_; simp only [Act.put, List.setIfInBounds_toArray, List.set_cons_succ, List.set_cons_zero]; go_big_quiet_on)
         | (go_big_quiet_op; first | go_big_quiet_on | go_big_quiet_call (first | (with_reducible exact Calls.regrown_of (c3 _)) | (with_reducible exact Calls.regrown_of (c4 _)) | (with_reducible exact Calls.regrown_of (kn _))))))
    refine wpQuiet_nil ?_
    intro z hz
    have Bz := Lib.hid (By.out.trans (hz.mono By.out.size))
    go_wp2
    go_ret
    exact ⟨rfl, Bz.out⟩
theorem int24 {l : List Int} (h : l.length = 24) : ∃ x0 x1 x2 x3 x4 x5 x6 x7 x8 x9 x10 x11 x12 x13 x14 x15 x16 x17 x18 x19 x20 x21 x22 x23 : Int, (l.map vi).toArray = #[.int .i64 x0, .int .i64 x1, .int .i64 x2, .int .i64 x3, .int .i64 x4, .int .i64 x5, .int .i64 x6, .int .i64 x7, .int .i64 x8, .int .i64 x9, .int .i64 x10, .int .i64 x11, .int .i64 x12, .int .i64 x13, .int .i64 x14, .int .i64 x15, .int .i64 x16, .int .i64 x17, .int .i64 x18, .int .i64 x19, .int .i64 x20, .int .i64 x21, .int .i64 x22, .int .i64 x23] := by
  match l, h with
  | [x0, x1, x2, x3, x4, x5, x6, x7, x8, x9, x10, x11, x12, x13, x14, x15, x16, x17, x18, x19, x20, x21, x22, x23], _ => exact ⟨x0, x1, x2, x3, x4, x5, x6, x7, x8, x9, x10, x11, x12, x13, x14, x15, x16, x17, x18, x19, x20, x21, x22, x23, rfl⟩
theorem eq24A {l : List Int} (h : l.length = 24) (W : World) : Sem.run Tryz.prog (Op.equalIn 10000 29 (.agg (l.map vi).toArray) (.agg (l.map vi).toArray)) W = .ok true W := by
  obtain ⟨x0, x1, x2, x3, x4, x5, x6, x7, x8, x9, x10, x11, x12, x13, x14, x15, x16, x17, x18, x19, x20, x21, x22, x23, hx⟩ := int24 h
  rw [hx]
  exact eq24 x0 x1 x2 x3 x4 x5 x6 x7 x8 x9 x10 x11 x12 x13 x14 x15 x16 x17 x18 x19 x20 x21 x22 x23 W
theorem lies_of {w : World} {ao : Option Addr} {L : List Q} (h : LiesO w ao L) (hp : 0 < L.length) : ∃ b f, ao = some ⟨b, f, none⟩ ∧ Lies w b f L := by
  rcases h with h | h
  · rw [h] at hp; simp at hp
  · exact h
theorem chanceWeights_walk (a b c : Int) (ao : Option Addr) (L : List Q) (cap : Nat) (p0 p1 p2 p3 p4 l : Int) (w : World) (_ : L.length ≤ maxLen) (hm : LiesO w ao L) (hst : StA w) : Calls Tryz.prog 3 #[.agg #[.int .i64 a, .int .i64 b, .int .i64 c, .slice ao L.length cap], .agg #[.int .i64 p0, .int .i64 p1, .int .i64 p2, .int .i64 p3, .int .i64 p4], .int .i64 l] w fun e w' => e = .returned (.bool true) ∧ Below w.heap.size w w' := by
  by_cases h : 200 < L.length
  · exact cWt_l a b c p0 p1 p2 p3 p4 l ao cap L w h
  obtain ⟨q, hq⟩ := vwR_ex [p0, p1, p2, p3, p4]
  obtain ⟨r, hr⟩ := clR_ex a b c L [p0, p1, p2, p3, p4] l
  by_cases z : r = 0
  · subst z
    obtain ⟨hF, hWO, l0, l1, l2⟩ := clR_ok hr
    refine cWt_g a b c p0 p1 p2 p3 p4 l 0 q ao cap L w (by omega) hm hst (wsA a b c L [p0, p1, p2, p3, p4] l) (by rw [wsA_sz]; exact infoWs) (by rw [wsA_sz]; rfl) (wsA_one a b c L [p0, p1, p2, p3, p4] l) (eq24A (wsK_len a b c L [p0, p1, p2, p3, p4] l (thr a b c l) 24)) ?_ ?_ (fun W => vw_any p0 p1 p2 p3 p4 q W hq) (fun W => refVw_any p0 p1 p2 p3 p4 q W hq)
    · intro W k1 k2
      obtain ⟨b1, o1, rfl, m1⟩ := lies_of k1 (by omega)
      have := weights_ok a b c p0 p1 p2 p3 p4 l b1 o1 cap L W m1 hr k2 (by omega)
      exact this
    · intro W k1
      obtain ⟨b1, o1, rfl, m1⟩ := lies_of k1 (by omega)
      have := refWeightsX_ok a b c p0 p1 p2 p3 p4 l b1 o1 cap L W m1 hr (by omega)
      exact this
  · exact cWt_g a b c p0 p1 p2 p3 p4 l r q ao cap L w (by omega) hm hst #[.int .i64 0, .int .i64 0, .int .i64 0, .int .i64 0, .int .i64 0, .int .i64 0, .int .i64 0, .int .i64 0, .int .i64 0, .int .i64 0, .int .i64 0, .int .i64 0, .int .i64 0, .int .i64 0, .int .i64 0, .int .i64 0, .int .i64 0, .int .i64 0, .int .i64 0, .int .i64 0, .int .i64 0, .int .i64 0, .int .i64 0, .int .i64 0] ws24_sz rfl ws24_one (eq24 0 0 0 0 0 0 0 0 0 0 0 0 0 0 0 0 0 0 0 0 0 0 0 0)
      (fun W k1 _ => weights_bad a b c p0 p1 p2 p3 p4 l r ao cap L W k1 hr z (by omega))
      (fun W k1 => refWeightsX_bad a b c p0 p1 p2 p3 p4 l r ao cap L W k1 hr z (by omega))
      (fun W => vw_any p0 p1 p2 p3 p4 q W hq) (fun W => refVw_any p0 p1 p2 p3 p4 q W hq)

/-! ### The statement of the law ChanceWeights, out of its walk -/
set_option maxRecDepth 100000 in
theorem chanceWeights_lifted (os : Os) (started : os.Started) (H : Type) (enc : TypeId × Value → H) :
    ReturnsInHanded {} Tryz.checked os 3 .any (fun w args => (Rows.chanceWeightsSpec.pre enc Tryz.prog Tryz.f3 [] false w args ∧ laidMetH Tryz.prog Rows.chanceWeightsRow.laid w) ∧ sizedMet enc Tryz.prog Tryz.f3 (OpenSpec.ofChange Rows.chanceWeightsSpec) false w args) (Rows.chanceWeightsSpec.post enc Tryz.prog Tryz.f3 false true false false) := by
  refine returnsInHanded_of_change_and (C := Tryz.checked) (X := fun w _ => laidMetH Tryz.prog Rows.chanceWeightsRow.laid w) (fun _ _ _ hh h => h.of_heap hh) own started (by kernel_rfl) Tryz.func3
    (ChangeSpec.witness_shaped (enc := enc) (C := Tryz.checked) (os := os) (X := fun w _ => laidMetH Tryz.prog Rows.chanceWeightsRow.laid w) false (World.doorLaid Tryz.prog 17 os) #[.agg #[.int .i64 0, .int .i64 0, .int .i64 0, .slice none 0 0], .agg #[.int .i64 0, .int .i64 0, .int .i64 0, .int .i64 0, .int .i64 0], .int .i64 0] 8 rfl (World.shaped_of_RefB (by kernel_rfl) (by kernel_rfl)) (by kernel_rfl) (by kernel_rfl) (by kernel_rfl) (laidMetH_of_parts3 (fuel := 8) (laidMet_of_run' 8 (by kernel_rfl) (by kernel_rfl)) (by kernel_rfl) (by kernel_rfl))) ?_
  intro W base args ds gs before hval0 hW _ _ hL _
  have hval : ∀ (j : Nat) t v, Tryz.f3.params[j]? = some t → args[j]? = some v → Value.okWide Tryz.prog W .any base t v := hval0
  have hW' := hW
  obtain ⟨p, q, hA0, hV, rfl, hfz, hnd⟩ := hW
  have hA : DataW.TrodAll enc Tryz.prog W 0 (fun _ => true) true Tryz.f3.params.toList args.toList ds p := hA0
  rw [Tryz.params3] at hA hval
  obtain ⟨v0, vs0, d0, ds0, p0, q0, hargs, rfl, rfl, h0, r0⟩ := trodAll_cons hA
  obtain ⟨v1, vs1, d1, ds1, p1, q1, rfl, rfl, rfl, h1, r1⟩ := trodAll_cons r0
  obtain ⟨v2, vs2, d2, ds2, p2, q2, rfl, rfl, rfl, h2, r2⟩ := trodAll_cons r1
  obtain ⟨rfl, rfl, rfl⟩ := trodAll_nil r2
  obtain rfl : args = #[v0, v1, v2] := by cases args; simp_all
  obtain ⟨rfl, rfl⟩ := trodVars_none hV
  have k0 := h0
  have lt0 : ∀ x ∈ p0, x.block < W.heap.size := by obtain ⟨m, hm⟩ := k0; exact DataW.trod_lt m _ _ _ hm
  obtain ⟨x0, y0, z0, ao0, L0, cap0, rfl, hl0, hm0⟩ := open_field (hval 0 25 v0 rfl rfl) h0
  have k1 := h1
  have lt1 : ∀ x ∈ p1, x.block < W.heap.size := by obtain ⟨m, hm⟩ := k1; exact DataW.trod_lt m _ _ _ hm
  obtain ⟨x1, y1, z1, u1, v1, rfl⟩ := open_w5 (hval 1 26 v1 rfl rfl) h1
  have k2 := h2
  have lt2 : ∀ x ∈ p2, x.block < W.heap.size := by obtain ⟨m, hm⟩ := k2; exact DataW.trod_lt m _ _ _ hm
  obtain ⟨x2, e2, -, -, -⟩ := open_int Tryz.underlying3 (hval 2 3 v2 rfl rfl) h2
  subst e2
  clear hA0 hval0
  refine (chanceWeights_walk x0 y0 z0 ao0 L0 cap0 x1 y1 z1 u1 v1 x2 W hl0 hm0 (sta_of_laid hL)).mono fun e W' ⟨he, bel⟩ => ?_
  subst he
  exact ⟨_, rfl, _, _, _, [], _, [], hW', trodAll_mk1 (shut_bool Tryz.underlying4 _), (trodAll_cons_mk (Below.trod laidOut (by kernel_rfl) (of_decide_eq_true (by kernel_rfl)) k0 bel lt0) (trodAll_cons_mk (Below.trod laidOut (by kernel_rfl) (of_decide_eq_true (by kernel_rfl)) k1 bel lt1) (trodAll_cons_mk (Below.trod laidOut (by kernel_rfl) (of_decide_eq_true (by kernel_rfl)) k2 bel lt2) trodAll_mk0))), rfl, bel.frame _, fun h => by cases h⟩

theorem chanceWeights_jf9 : (Rows.chanceWeightsRow.inPlace == Tryz.prog.inPlace 3) = true := by kernel_rfl
theorem chanceWeights_jf10 : (Rows.chanceWeightsRow.unfollowed == Tryz.prog.unfollowed 3) = true := by kernel_rfl
theorem chanceWeights_jf11 : (Rows.chanceWeightsRow.recurses == Tryz.prog.recurses 3) = true := by kernel_rfl
theorem chanceWeights_jf12 : (Rows.chanceWeightsRow.named == Tryz.prog.varsNamed 3) = true := by kernel_rfl
theorem chanceWeights_facts : joinedFacts Tryz.prog 3 Tryz.f3 Rows.chanceWeightsSpec Rows.chanceWeightsRow = true := by
  unfold joinedFacts
  exact (band (band (band (band (band (band (band (band (band (band (band (band (band (band (band (band (band (band (band (band (band (band (band (band (band (band (band (band (band (band (band (by kernel_rfl) jf1) jf2) (by kernel_rfl)) (by kernel_rfl)) (by kernel_rfl)) jf6) (by kernel_rfl)) jf8) chanceWeights_jf9) chanceWeights_jf10) chanceWeights_jf11) chanceWeights_jf12) (by kernel_rfl)) (by kernel_rfl)) (by kernel_rfl)) (by kernel_rfl)) (by kernel_rfl)) (by kernel_rfl)) (by kernel_rfl)) (by kernel_rfl)) (by kernel_rfl)) (by kernel_rfl)) (by kernel_rfl)) jf24) jf25) jf26) jf27) (by kernel_rfl)) (by kernel_rfl)) (by kernel_rfl)) (by kernel_rfl))

theorem chanceWeights_over : Rows.chanceWeightsRow.holds Tryz.pinned (OpenSpec.ofChange Rows.chanceWeightsSpec) :=
  OpenClaim.holds_of_wide 3 Tryz.f3 rfl rfl rfl rfl rfl rfl rfl ⟨rfl, rfl, rfl, rfl, rfl⟩ rfl rfl rfl rfl rfl (by kernel_rfl) Tryz.func3 chanceWeights_facts
    (of_decide_eq_true (by kernel_rfl)) (by unfold Func.isWrapper; first | (rw [if_pos (by decide +kernel)]; kernel_rfl) | (rw [if_neg (by decide +kernel)]; exact ⟨rfl, rfl⟩))
    (fun os started H enc _ => chanceWeights_lifted os started H enc)

theorem chanceWeights_holds : Rows.ChanceWeightsCardSaid :=
  Claim7.holds_tied_plain_at .later [] [.data] true (true, "53c1b5e1e7764523c431423f857e3b43d4884bb98fa3eac6047523bbb346dfed") false
    chanceWeights_over (fun _ h => by cases h) (by kernel_rfl) (fun _ h => by cases h) chanceWeights_row_tie rfl ⟨rfl, rfl⟩ (by kernel_rfl) rfl
    (fun f fn hf hfn => by
      obtain rfl : f = 3 := Option.some.inj ((show Tryz.prog.funcNamed "plaquette/plaquettelaw05.ChanceWeights" = some 3 by kernel_rfl).symm.trans hf) |>.symm
      obtain rfl : fn = Tryz.f3 := (Option.some.inj (Tryz.func3.symm.trans hfn)).symm
      exact ⟨by kernel_rfl, fun j t ht => by
        rw [Tryz.params3] at ht
        have hm : t ∈ [25, 26, 3] := by simpa using Array.mem_of_getElem? ht
        have hall : ([25, 26, 3].all fun u => !Tryz.prog.wantsStandIn u) = true := by kernel_rfl
        exact (show Tryz.prog.wantsStandIn t = false by simpa using List.all_eq_true.1 hall t hm)⟩)
    (by kernel_rfl)
#print axioms chanceWeights_holds

end Go.Proofs.YtpfhjdmgkckjfaaGreatDoor
