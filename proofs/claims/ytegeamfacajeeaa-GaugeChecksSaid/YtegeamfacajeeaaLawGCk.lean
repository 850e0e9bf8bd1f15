/- GaugeChecks: which quaternions are certificates for two fields is what the document says, for all fields and quaternions.
Conditions: none. -/
import Derived.Test.YtegeamfacajeeaaGauG
import Derived.Test.YtegeamfacajeeaaOpenQ
import Derived.Test.YtegeamfacajeeaaJFacts
namespace Go.Proofs.Ytegeamfacajeeaa
set_option linter.unusedVariables false
set_option linter.unusedSimpArgs false
set_option maxRecDepth 1000000
open Go.ChangeShapes Go.WideShapes Go.ChangeAt Go.RowKit
open Um Tm

set_option maxHeartbeats 3200000 in
theorem gCk_long (a b c a' b' c' : Int) (ao bo : Option Addr) (cap cap' : Nat) (L M : List Q) (q : Q) (w : World) (h : 200 < L.length ∨ 200 < M.length) : Calls Try.prog 10 #[.agg #[.int .i64 a, .int .i64 b, .int .i64 c, .slice ao L.length cap], .agg #[.int .i64 a', .int .i64 b', .int .i64 c', .slice bo M.length cap'], .agg #[.int .i64 q.a, .int .i64 q.b, .int .i64 q.c, .int .i64 q.d]] w fun e w' => e = .returned (.bool true) ∧ Below w.heap.size w w' := by
  have kn := sane4_any
  by_cases h1 : 200 < L.length
  · have c1 := fun W : World => long4_any a b c ao cap L true W (.inl ⟨h1, rfl⟩)
    clear h h1
    go_enter Try.func10, Try.ntmps10
    go_wp2_with (fail)
    refine (c1 _).mono ?_
    rintro e w1 ⟨rfl, hw1⟩
    have b1 := bel3 hw1
    clear hw1
    go_wp2_with (fail)
    refine (kn _).mono ?_
    rintro e w2 ⟨rfl, hw2⟩
    go_wp2
    go_ret
    exact ⟨rfl, b1.trans (hw2.mono b1.size)⟩
  · have h2 : 200 < M.length := by omega
    have c1 := fun W : World => long4_any a b c ao cap L false W (.inr ⟨by omega, rfl⟩)
    have c2 := fun W : World => long4_any a' b' c' bo cap' M true W (.inl ⟨h2, rfl⟩)
    clear h h1 h2
    go_enter Try.func10, Try.ntmps10
    have G0 := Lib.hid (FW.n3b (w := w) (x := a') (y := b') (z := c') (v := .slice bo M.length cap') (T := 25) (o := .cells #[.int .i64 a, .int .i64 b, .int .i64 c, .slice ao L.length cap] 25) (p := .cells #[.int .i64 q.a, .int .i64 q.b, .int .i64 q.c, .int .i64 q.d] 60))
    go_wp2_with (fail)
    refine (c1 _).mono ?_
    rintro e w1 ⟨rfl, hw1⟩
    have b1 := bel3 hw1
    obtain ⟨g0, g1, g2, g3, gf, gl⟩ := G0.out.later hw1
    clear hw1 c1 G0
    go_wp2_with (fail)
    refine (c2 _).mono ?_
    rintro e w2 ⟨rfl, hw2⟩
    have b2 := b1.trans (hw2.mono b1.size)
    clear c2 hw2 g0 g1 g2 g3 gf gl
    go_wp2_with (fail)
    refine (kn _).mono ?_
    rintro e w3 ⟨rfl, hw3⟩
    go_wp2
    go_ret
    exact ⟨rfl, b2.trans (hw3.mono b2.size)⟩
set_option maxHeartbeats 3200000 in
theorem gCk_few (a b c a' b' c' : Int) (ao bo : Option Addr) (cap cap' : Nat) (L M : List Q) (q : Q) (w : World) (h1 : L.length ≤ 200) (h2 : M.length ≤ 200) (hm : LiesO w ao L) (hm' : LiesO w bo M) : Calls Try.prog 10 #[.agg #[.int .i64 a, .int .i64 b, .int .i64 c, .slice ao L.length cap], .agg #[.int .i64 a', .int .i64 b', .int .i64 c', .slice bo M.length cap'], .agg #[.int .i64 q.a, .int .i64 q.b, .int .i64 q.c, .int .i64 q.d]] w fun e w' => e = .returned (.bool true) ∧ Below w.heap.size w w' := by
  have kn := sane4_any
  obtain ⟨r, k1, k2⟩ := ck_ans a b c a' b' c' ao bo cap cap' L M q (by omega) (by omega)
  have c1 := fun W : World => long4_any a b c ao cap L false W (.inr ⟨h1, rfl⟩)
  have c2 := fun W : World => long4_any a' b' c' bo cap' M false W (.inr ⟨h2, rfl⟩)
  have H := Lib.hid hm
  have H' := Lib.hid hm'
  have qr : (r == r) = true := by simp
  clear hm hm' h1 h2
  go_enter Try.func10, Try.ntmps10
  have F0 := Lib.hid (FW.n3a (w := w) (x := a) (y := b) (z := c) (v := .slice ao L.length cap) (T := 25) (o := .cells #[.int .i64 a', .int .i64 b', .int .i64 c', .slice bo M.length cap'] 25) (p := .cells #[.int .i64 q.a, .int .i64 q.b, .int .i64 q.c, .int .i64 q.d] 60))
  have G0 := Lib.hid (FW.n3b (w := w) (x := a') (y := b') (z := c') (v := .slice bo M.length cap') (T := 25) (o := .cells #[.int .i64 a, .int .i64 b, .int .i64 c, .slice ao L.length cap] 25) (p := .cells #[.int .i64 q.a, .int .i64 q.b, .int .i64 q.c, .int .i64 q.d] 60))
  have Q0 := Lib.hid (C4.n3c (w := w) (v0 := .int .i64 q.a) (v1 := .int .i64 q.b) (v2 := .int .i64 q.c) (v3 := .int .i64 q.d) (T := 60) (o := .cells #[.int .i64 a, .int .i64 b, .int .i64 c, .slice ao L.length cap] 25) (p := .cells #[.int .i64 a', .int .i64 b', .int .i64 c', .slice bo M.length cap'] 25))
  go_wp2_with (fail)
  refine (c1 _).mono ?_
  rintro e w1 ⟨rfl, hw1⟩
  have b1 := bel3 hw1
  have F1 := Lib.hid (F0.out.later hw1)
  have G1 := Lib.hid (G0.out.later hw1)
  have Q1 := Lib.hid (Q0.out.later hw1)
  clear hw1 c1 F0 G0 Q0
  obtain ⟨g0, g1, g2, g3, gf, gl⟩ := G1.out
  go_wp2_with (fail)
  refine (c2 _).mono ?_
  rintro e w2 ⟨rfl, hw2⟩
  have b2 := b1.trans (hw2.mono b1.size)
  have F2 := Lib.hid (F1.out.later hw2)
  have G2 := Lib.hid (G1.out.later hw2)
  have Q2 := Lib.hid (Q1.out.later hw2)
  have H2 := Lib.hid (H.out.later b2)
  have K2 := Lib.hid (H'.out.later b2)
  clear hw2 c2 F1 G1 Q1 g0 g1 g2 g3 gf gl b1 H H'
  obtain ⟨f0, f1, f2, f3, ff, fl⟩ := F2.out
  obtain ⟨g0, g1, g2, g3, gf, gl⟩ := G2.out
  obtain ⟨q0, q1, q2, q3, qf, ql⟩ := Q2.out
  go_wp2_with (fail)
  refine Tail.region_below (by kernel_rfl) (by kernel_rfl) ?_
  have kc := @Tail.cell_re
  repeat (go_big_quiet_step (first | (with_reducible exact Calls.regrown_of (kn _)) | (with_reducible exact Calls.regrown_of (k1 _ (liesO_re H2.out _ _) (liesO_re K2.out _ _))) | (with_reducible exact Calls.regrown_of (k2 _ (liesO_re H2.out _ _) (liesO_re K2.out _ _)))))
  refine wpQuiet_nil ?_
  intro w3 hw3
  go_wp2
  go_ret
  exact ⟨rfl, b2.trans (hw3.mono b2.size)⟩
theorem gaugeChecks_walk (a b c : Int) (ao : Option Addr) (L : List Q) (cap : Nat) (a' b' c' : Int) (bo : Option Addr) (M : List Q) (cap' : Nat) (x y z t : Int) (w : World) (hl : L.length ≤ maxLen) (hm : LiesO w ao L) (hl' : M.length ≤ maxLen) (hm' : LiesO w bo M) : Calls Try.prog 10 #[.agg #[.int .i64 a, .int .i64 b, .int .i64 c, .slice ao L.length cap], .agg #[.int .i64 a', .int .i64 b', .int .i64 c', .slice bo M.length cap'], .agg #[.int .i64 x, .int .i64 y, .int .i64 z, .int .i64 t]] w fun e w' => e = .returned (.bool true) ∧ Below w.heap.size w w' := by
  by_cases h : 200 < L.length ∨ 200 < M.length
  · exact gCk_long a b c a' b' c' ao bo cap cap' L M ⟨x, y, z, t, 0⟩ w h
  · exact gCk_few a b c a' b' c' ao bo cap cap' L M ⟨x, y, z, t, 0⟩ w (by omega) (by omega) hm hm'
/-! ### The statement of the law GaugeChecks, out of its walk -/
set_option maxRecDepth 100000 in
theorem gaugeChecks_lifted (os : Os) (started : os.Started) (H : Type) (enc : TypeId × Value → H) :
    ReturnsInHanded {} Try.checked os 10 .any (Rows.gaugeChecksSpec.pre6 enc Try.prog Try.f10 Rows.gaugeChecksRow.domain false) (Rows.gaugeChecksSpec.post enc Try.prog Try.f10 false true false false) := by
  refine returnsInHanded_of_change (C := Try.checked) own started (by kernel_rfl) Try.func10
    (ChangeSpec.witness6 (enc := enc) (C := Try.checked) false ⟨#[], #[.agg #[.int .i64 0, .int .i64 0, .int .i64 0, .slice none 0 0], .agg #[.int .i64 0, .int .i64 0, .int .i64 0, .slice none 0 0], .agg #[.int .i64 0, .int .i64 0, .int .i64 0, .int .i64 0]], []⟩ 8 (by kernel_rfl) (by kernel_rfl) (by kernel_rfl) (by kernel_rfl)) ?_
  intro W base args ds gs before hval0 hW hcnd _
  have hval : ∀ (j : Nat) t v, Try.f10.params[j]? = some t → args[j]? = some v → Value.okWide Try.prog W .any base t v := hval0
  have hW' := hW
  obtain ⟨p, q, hA0, hV, rfl, hfz, hnd⟩ := hW
  have hA : DataW.TrodAll enc Try.prog W 0 (fun _ => true) true Try.f10.params.toList args.toList ds p := hA0
  rw [Try.params10] at hA hval
  obtain ⟨v0, vs0, d0, ds0, p0, q0, hargs, rfl, rfl, h0, r0⟩ := trodAll_cons hA
  obtain ⟨v1, vs1, d1, ds1, p1, q1, rfl, rfl, rfl, h1, r1⟩ := trodAll_cons r0
  obtain ⟨v2, vs2, d2, ds2, p2, q2, rfl, rfl, rfl, h2, r2⟩ := trodAll_cons r1
  obtain ⟨rfl, rfl, rfl⟩ := trodAll_nil r2
  obtain rfl : args = #[v0, v1, v2] := by cases args; simp_all
  obtain ⟨rfl, rfl⟩ := trodVars_none hV
  have k0 := h0
  have lt0 : ∀ x ∈ p0, x.block < W.heap.size := by obtain ⟨m, hm⟩ := k0; exact DataW.trod_lt m _ _ _ hm
  obtain ⟨x0, y0, z0, ao0, L0, cap0, rfl, hl0, hm0⟩ := open_field (hval 0 25 v0 rfl rfl) h0
  have k1 := h1
  have lt1 : ∀ x ∈ p1, x.block < W.heap.size := by obtain ⟨m, hm⟩ := k1; exact DataW.trod_lt m _ _ _ hm
  obtain ⟨x1, y1, z1, ao1, L1, cap1, rfl, hl1, hm1⟩ := open_field (hval 1 25 v1 rfl rfl) h1
  have k2 := h2
  have lt2 : ∀ x ∈ p2, x.block < W.heap.size := by obtain ⟨m, hm⟩ := k2; exact DataW.trod_lt m _ _ _ hm
  obtain ⟨x2, y2, z2, t2, rfl⟩ := open_q4 (hval 2 60 v2 rfl rfl) h2
  clear hA0 hval0
  refine (gaugeChecks_walk x0 y0 z0 ao0 L0 cap0 x1 y1 z1 ao1 L1 cap1 x2 y2 z2 t2 W hl0 hm0 hl1 hm1).mono fun e W' ⟨he, bel⟩ => ?_
  subst he
  exact ⟨_, rfl, _, _, _, [], _, [], hW', trodAll_mk1 (shut_bool Try.underlying4 _), (trodAll_cons_mk (Below.trod laidOut (by kernel_rfl) (of_decide_eq_true (by kernel_rfl)) k0 bel lt0) (trodAll_cons_mk (Below.trod laidOut (by kernel_rfl) (of_decide_eq_true (by kernel_rfl)) k1 bel lt1) (trodAll_cons_mk (Below.trod laidOut (by kernel_rfl) (of_decide_eq_true (by kernel_rfl)) k2 bel lt2) trodAll_mk0))), rfl, bel.frame _, fun h => by cases h⟩

theorem gaugeChecks_jf9 : (Rows.gaugeChecksRow.inPlace == Try.prog.inPlace 10) = true := by kernel_rfl
theorem gaugeChecks_jf10 : (Rows.gaugeChecksRow.unfollowed == Try.prog.unfollowed 10) = true := by kernel_rfl
theorem gaugeChecks_jf11 : (Rows.gaugeChecksRow.recurses == Try.prog.recurses 10) = true := by kernel_rfl
theorem gaugeChecks_jf12 : (Rows.gaugeChecksRow.named == Try.prog.varsNamed 10) = true := by kernel_rfl
theorem gaugeChecks_facts : joinedFacts Try.prog 10 Try.f10 Rows.gaugeChecksSpec Rows.gaugeChecksRow = true := by
  unfold joinedFacts
  exact (band (band (band (band (band (band (band (band (band (band (band (band (band (band (band (band (band (band (band (band (band (band (band (band (band (band (band (band (band (band (band (by kernel_rfl) jf1) jf2) (by kernel_rfl)) (by kernel_rfl)) (by kernel_rfl)) jf6) (by kernel_rfl)) jf8) gaugeChecks_jf9) gaugeChecks_jf10) gaugeChecks_jf11) gaugeChecks_jf12) (by kernel_rfl)) (by kernel_rfl)) (by kernel_rfl)) (by kernel_rfl)) (by kernel_rfl)) (by kernel_rfl)) (by kernel_rfl)) (by kernel_rfl)) (by kernel_rfl)) (by kernel_rfl)) (by kernel_rfl)) jf24) jf25) jf26) jf27) (by kernel_rfl)) (by kernel_rfl)) (by kernel_rfl)) (by kernel_rfl))

theorem gaugeChecks_over : Rows.gaugeChecksRow.holds Try.pinned (OpenSpec.ofChange Rows.gaugeChecksSpec) :=
  OpenClaim.holds_of_wide 10 Try.f10 rfl rfl rfl rfl rfl rfl rfl ⟨rfl, rfl, rfl, rfl, rfl⟩ rfl rfl rfl rfl rfl (by kernel_rfl) Try.func10 gaugeChecks_facts
    (of_decide_eq_true (by kernel_rfl)) (by unfold Func.isWrapper; first | (rw [if_pos (by decide +kernel)]; kernel_rfl) | (rw [if_neg (by decide +kernel)]; exact ⟨rfl, rfl⟩))
    (fun os started H enc _ => gaugeChecks_lifted os started H enc)

theorem gaugeChecks_holds : Rows.GaugeChecksSaid := gaugeChecks_over
#print axioms gaugeChecks_holds

end Go.Proofs.Ytegeamfacajeeaa
