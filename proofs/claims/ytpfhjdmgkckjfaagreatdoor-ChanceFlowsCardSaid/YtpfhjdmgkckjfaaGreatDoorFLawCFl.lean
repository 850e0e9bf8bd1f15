/- ChanceFlows: by how many draws a link goes from one value to another one, and the ratios of weights, are what the document says, for all fields, weights, links and values.
Conditions: none. -/
import Derived.Test.YtpfhjdmgkckjfaaGreatDoorFRatC5
import Derived.Test.YtpfhjdmgkckjfaaGreatDoorFSane5
import Derived.Test.YtpfhjdmgkckjfaaGreatDoorFOpenA5
import Derived.Test.YtpfhjdmgkckjfaaGreatDoorFCold
import Derived.Test.YtpfhjdmgkckjfaaGreatDoorFLaidS
import Derived.ChangeKeysEq
namespace Go.Proofs.YtpfhjdmgkckjfaaGreatDoor
set_option linter.unusedVariables false
set_option linter.unusedSimpArgs false
set_option maxRecDepth 1000000
open Go.ChangeShapes Go.WideShapes Go.ChangeAt Go.RowKit
open Um Tm Cm
open Go.Sort

theorem eqRt (p : Int × Int) (W : World) : Sem.run Tryz.prog (Op.equalIn 10000 45 (.agg #[.int .i64 (p).1, .int .i64 (p).2]) (.agg #[.int .i64 (p).1, .int .i64 (p).2])) W = .ok true W := by simp [go_sem]
set_option maxHeartbeats 3200000 in
theorem cFl_l (a b c p0 p1 p2 p3 p4 l x y : Int) (ao : Option Addr) (cap : Nat) (L : List Q) (w : World) (h : 200 < L.length) : Calls Tryz.prog 5 #[.agg #[.int .i64 a, .int .i64 b, .int .i64 c, .slice ao L.length cap], .agg #[.int .i64 p0, .int .i64 p1, .int .i64 p2, .int .i64 p3, .int .i64 p4], .agg #[.int .i64 l, .int .i64 x, .int .i64 y]] w fun e w' => e = .returned (.bool true) ∧ Below w.heap.size w w' := by
  have kn := sane5_any
  have c0 := fun W : World => long5_any a b c ao cap L true W (.inl ⟨h, rfl⟩)
  go_enter Tryz.func5, Tryz.ntmps5
  go_wp2_with (fail)
  refine (c0 _).mono ?_
  rintro e w1 ⟨rfl, hw1⟩
  have bw1 : Below w.heap.size w w1 := bel3 hw1
  have F1 := Lib.hid (FW.n3a.later hw1)
  have E1 := Lib.hid (C5.n3b.later hw1)
  have X1 := Lib.hid (C3.n3c.later hw1)
  have HB1 := Lib.hid bw1
  clear hw1 bw1
  go_wp2_with (fail)
  refine (kn _).mono ?_
  rintro e w2 ⟨rfl, hw2⟩
  have bw2 : Below w1.heap.size w1 w2 := hw2
  have F2 := Lib.hid (F1.out.later bw2)
  have E2 := Lib.hid (E1.out.later bw2)
  have X2 := Lib.hid (X1.out.later bw2)
  have HB2 := Lib.hid (HB1.out.trans (bw2.mono HB1.out.size))
  clear hw2 bw2 F1 E1 X1 HB1
  go_wp2
  go_ret
  exact ⟨rfl, HB2.out⟩
set_option maxHeartbeats 12800000 in
theorem cFl_g (a b c p0 p1 p2 p3 p4 l x y v q s : Int) (ao : Option Addr) (cap : Nat) (L : List Q) (w : World) (p : Int × Int) (k1 : L.length ≤ 200) (hm : LiesO w ao L) (hst : StA w)
    (c1 : ∀ (W : World), LiesO W ao L → StA W → Calls Tryz.prog 21 #[.agg #[.int .i64 a, .int .i64 b, .int .i64 c, .slice ao L.length cap], .agg #[.int .i64 p0, .int .i64 p1, .int .i64 p2, .int .i64 p3, .int .i64 p4], .int .i64 l, .int .i64 x, .int .i64 y] W fun e w' => e = .returned (.tuple #[.int .i64 v, .int .i64 q]) ∧ Below W.heap.size W w')
    (c2 : ∀ (W : World), LiesO W ao L → Calls Tryz.prog 22 #[.agg #[.int .i64 a, .int .i64 b, .int .i64 c, .slice ao L.length cap], .agg #[.int .i64 p0, .int .i64 p1, .int .i64 p2, .int .i64 p3, .int .i64 p4], .int .i64 l, .int .i64 x, .int .i64 y] W fun e w' => e = .returned (.tuple #[.int .i64 v, .int .i64 q]) ∧ Below W.heap.size W w')
    (c3 : ∀ (W : World), LiesO W ao L → StA W → Calls Tryz.prog 23 #[.agg #[.int .i64 a, .int .i64 b, .int .i64 c, .slice ao L.length cap], .agg #[.int .i64 p0, .int .i64 p1, .int .i64 p2, .int .i64 p3, .int .i64 p4], .int .i64 l, .int .i64 y] W fun e w' => e = .returned (.tuple #[.agg #[.int .i64 (p).1, .int .i64 (p).2], .int .i64 s]) ∧ Below W.heap.size W w')
    (c4 : ∀ (W : World), LiesO W ao L → Calls Tryz.prog 24 #[.agg #[.int .i64 a, .int .i64 b, .int .i64 c, .slice ao L.length cap], .agg #[.int .i64 p0, .int .i64 p1, .int .i64 p2, .int .i64 p3, .int .i64 p4], .int .i64 l, .int .i64 y] W fun e w' => e = .returned (.tuple #[.agg #[.int .i64 (p).1, .int .i64 (p).2], .int .i64 s]) ∧ Below W.heap.size W w') : Calls Tryz.prog 5 #[.agg #[.int .i64 a, .int .i64 b, .int .i64 c, .slice ao L.length cap], .agg #[.int .i64 p0, .int .i64 p1, .int .i64 p2, .int .i64 p3, .int .i64 p4], .agg #[.int .i64 l, .int .i64 x, .int .i64 y]] w fun e w' => e = .returned (.bool true) ∧ Below w.heap.size w w' := by
  have kn := sane5_any
  have c0 := fun W : World => long5_any a b c ao cap L false W (.inr ⟨k1, rfl⟩)
  have t1 : (v == v) = true := by simp
  have t2 : (q == q) = true := by simp
  have t3 : (s == s) = true := by simp
  have qR := eqRt p
  have H0 := Lib.hid hm
  have S0 := Lib.hid hst
  clear hm hst k1
  obtain ⟨r1, r2⟩ := p
  go_enter Tryz.func5, Tryz.ntmps5
  go_wp2_with (fail)
  refine (c0 _).mono ?_
  rintro e w1 ⟨rfl, hw1⟩
  have bw1 : Below w.heap.size w w1 := bel3 hw1
  have F1 := Lib.hid (FW.n3a.later hw1)
  have E1 := Lib.hid (C5.n3b.later hw1)
  have X1 := Lib.hid (C3.n3c.later hw1)
  have H1 := Lib.hid (H0.out.later bw1)
  have S1 := Lib.hid (S0.out.later bw1)
  have HB1 := Lib.hid bw1
  clear hw1 bw1 H0 S0
  obtain ⟨f1_0, f1_1, f1_2, f1_3, f1_4, f1_5⟩ := F1.out
  obtain ⟨e1_0, e1_1, e1_2, e1_3, e1_4, e1_5, e1_6⟩ := E1.out
  obtain ⟨x1_0, x1_1, x1_2, x1_3, x1_4⟩ := X1.out
  go_wp2_with (fail)
  refine (c1 _ (H1.out) (S1.out)).mono ?_
  rintro e w2 ⟨rfl, hw2⟩
  clear f1_0 f1_1 f1_2 f1_3 f1_4 f1_5 e1_0 e1_1 e1_2 e1_3 e1_4 e1_5 e1_6 x1_0 x1_1 x1_2 x1_3 x1_4
  have bw2 : Below w1.heap.size w1 w2 := hw2
  have H2 := Lib.hid (H1.out.later bw2)
  have S2 := Lib.hid (S1.out.later bw2)
  have F2 := Lib.hid (F1.out.later bw2)
  have E2 := Lib.hid (E1.out.later bw2)
  have X2 := Lib.hid (X1.out.later bw2)
  have HB2 := Lib.hid (HB1.out.trans (bw2.mono HB1.out.size))
  clear hw2 bw2 H1 S1 F1 E1 X1 HB1
  obtain ⟨f2_0, f2_1, f2_2, f2_3, f2_4, f2_5⟩ := F2.out
  obtain ⟨e2_0, e2_1, e2_2, e2_3, e2_4, e2_5, e2_6⟩ := E2.out
  obtain ⟨x2_0, x2_1, x2_2, x2_3, x2_4⟩ := X2.out
  go_wp2_with (fail)
  refine (c2 _ (H2.out)).mono ?_
  rintro e w3 ⟨rfl, hw3⟩
  clear f2_0 f2_1 f2_2 f2_3 f2_4 f2_5 e2_0 e2_1 e2_2 e2_3 e2_4 e2_5 e2_6 x2_0 x2_1 x2_2 x2_3 x2_4
  have bw3 : Below w2.heap.size w2 w3 := hw3
  have H3 := Lib.hid (H2.out.later bw3)
  have S3 := Lib.hid (S2.out.later bw3)
  have F3 := Lib.hid (F2.out.later bw3)
  have E3 := Lib.hid (E2.out.later bw3)
  have X3 := Lib.hid (X2.out.later bw3)
  have HB3 := Lib.hid (HB2.out.trans (bw3.mono HB2.out.size))
  clear hw3 bw3 H2 S2 F2 E2 X2 HB2
  obtain ⟨f3_0, f3_1, f3_2, f3_3, f3_4, f3_5⟩ := F3.out
  obtain ⟨e3_0, e3_1, e3_2, e3_3, e3_4, e3_5, e3_6⟩ := E3.out
  obtain ⟨x3_0, x3_1, x3_2, x3_3, x3_4⟩ := X3.out
  go_wp2_with (fail)
  refine (c3 _ (H3.out) (S3.out)).mono ?_
  rintro e w4 ⟨rfl, hw4⟩
  clear f3_0 f3_1 f3_2 f3_3 f3_4 f3_5 e3_0 e3_1 e3_2 e3_3 e3_4 e3_5 e3_6 x3_0 x3_1 x3_2 x3_3 x3_4
  have bw4 : Below w3.heap.size w3 w4 := hw4
  have H4 := Lib.hid (H3.out.later bw4)
  have S4 := Lib.hid (S3.out.later bw4)
  have F4 := Lib.hid (F3.out.later bw4)
  have E4 := Lib.hid (E3.out.later bw4)
  have X4 := Lib.hid (X3.out.later bw4)
  have HB4 := Lib.hid (HB3.out.trans (bw4.mono HB3.out.size))
  clear hw4 bw4 H3 S3 F3 E3 X3 HB3
  obtain ⟨f4_0, f4_1, f4_2, f4_3, f4_4, f4_5⟩ := F4.out
  obtain ⟨e4_0, e4_1, e4_2, e4_3, e4_4, e4_5, e4_6⟩ := E4.out
  obtain ⟨x4_0, x4_1, x4_2, x4_3, x4_4⟩ := X4.out
  go_wp2_with (fail)
  refine (c4 _ (H4.out.later ba1)).mono ?_
  rintro e w5 ⟨rfl, hw5⟩
  clear f4_0 f4_1 f4_2 f4_3 f4_4 f4_5 e4_0 e4_1 e4_2 e4_3 e4_4 e4_5 e4_6 x4_0 x4_1 x4_2 x4_3 x4_4
  have bw5 : Below w4.heap.size w4 w5 := bel1 hw5
  have P5 := Lib.hid (C2.n1.later hw5)
  have H5 := Lib.hid (H4.out.later bw5)
  have S5 := Lib.hid (S4.out.later bw5)
  have F5 := Lib.hid (F4.out.later bw5)
  have E5 := Lib.hid (E4.out.later bw5)
  have X5 := Lib.hid (X4.out.later bw5)
  have HB5 := Lib.hid (HB4.out.trans (bw5.mono HB4.out.size))
  clear hw5 bw5 H4 S4 F4 E4 X4 HB4
  obtain ⟨p5_0, p5_1, p5_2, p5_3⟩ := P5.out
  clear H5
  clear S5
  go_wp2_with (fail)
  refine (kn _).mono ?_
  rintro e w6 ⟨rfl, hw6⟩
  clear p5_0 p5_1 p5_2 p5_3
  have bw6 : Below w5.heap.size w5 w6 := bel1 hw6
  have Y6 := Lib.hid (C2.n1.later hw6)
  have F6 := Lib.hid (F5.out.later bw6)
  have E6 := Lib.hid (E5.out.later bw6)
  have X6 := Lib.hid (X5.out.later bw6)
  have P6 := Lib.hid (P5.out.later bw6)
  have HB6 := Lib.hid (HB5.out.trans (bw6.mono HB5.out.size))
  clear hw6 bw6 F5 E5 X5 P5 HB5
  go_wp2
  go_ret
  exact ⟨rfl, HB6.out⟩
theorem refWeightsX_of {a b c l : Int} {p0 p1 p2 p3 p4 : Int} {bl off cap : Nat} {L : List Q} (hF : SmF a b c L) (hWO : WOk [p0, p1, p2, p3, p4]) (l0 : 0 ≤ l) (l2 : l < (L.length : Int)) (W : World) (k : Lies W bl off L) : Calls Tryz.prog 44 #[.agg #[.int .i64 a, .int .i64 b, .int .i64 c, .slice (some ⟨bl, off, none⟩) L.length cap], .agg #[.int .i64 p0, .int .i64 p1, .int .i64 p2, .int .i64 p3, .int .i64 p4], .int .i64 l] W fun e w' => e = .returned (.agg ((wsK a b c L [p0, p1, p2, p3, p4] l (thr a b c l) 24).map vi).toArray) ∧ Below W.heap.size W w' := refWeights_any a b c p0 p1 p2 p3 p4 l bl off cap L W k hF hWO l0 l2
theorem wsK_get (a b c l : Int) (L : List Q) (ws ps : List Int) (k : Nat) (hk : k < 24) : (wsK a b c L ws l ps 24)[k]? = some (wprod a b c L ws l (small (k : Int)) ps) := by
  unfold wsK
  rw [List.getElem?_map, List.getElem?_range hk]
  rfl
theorem wg_of {a b c l : Int} {L : List Q} {ws : List Int} (hF : SmF a b c L) (hw : WOk ws) (l0 : 0 ≤ l) (l1 : l < 3 * (a * b * c)) (k : Nat) (hk : k < 24) : Wg (wprod a b c L ws l (small (k : Int)) (thr a b c l)) := by
  obtain ⟨hn1, hn4⟩ := thr_some hF.z l0 l1
  have hs : Sm (small (k : Int)) := ⟨k, hk, rfl⟩
  obtain ⟨k1, k2⟩ := wprod_rng (l := l) hF hw hs (thr a b c l) (fun p hp => by obtain ⟨j, hj⟩ := List.getElem?_of_mem hp; exact thr_rng hj) (thr a b c l).length (Nat.le_refl _)
  rw [List.take_length] at k1 k2
  refine ⟨k1, Int.le_trans k2 ?_⟩
  have h : (thr a b c l).length = 1 ∨ (thr a b c l).length = 2 ∨ (thr a b c l).length = 3 ∨ (thr a b c l).length = 4 := by omega
  rcases h with h | h | h | h <;> rw [h] <;> decide
theorem chanceFlows_walk (a b c : Int) (ao : Option Addr) (L : List Q) (cap : Nat) (p0 p1 p2 p3 p4 l x y : Int) (w : World) (_ : L.length ≤ maxLen) (hm : LiesO w ao L) (hst : StA w) : Calls Tryz.prog 5 #[.agg #[.int .i64 a, .int .i64 b, .int .i64 c, .slice ao L.length cap], .agg #[.int .i64 p0, .int .i64 p1, .int .i64 p2, .int .i64 p3, .int .i64 p4], .agg #[.int .i64 l, .int .i64 x, .int .i64 y]] w fun e w' => e = .returned (.bool true) ∧ Below w.heap.size w w' := by
  by_cases h : 200 < L.length
  · exact cFl_l a b c p0 p1 p2 p3 p4 l x y ao cap L w h
  obtain ⟨r, hr⟩ := clR_ex a b c L [p0, p1, p2, p3, p4] l
  by_cases z : r = 0
  · subst z
    obtain ⟨hF, hWO, l0, l1, l2⟩ := clR_ok hr
    have hls : (wsK a b c L [p0, p1, p2, p3, p4] l (thr a b c l) 24).length = 24 := wsK_len a b c L [p0, p1, p2, p3, p4] l (thr a b c l) 24
    obtain ⟨v, q, hv⟩ := fwR_ex (wsK a b c L [p0, p1, p2, p3, p4] l (thr a b c l) 24) hls x y 0
    obtain ⟨bl, off, rfl, m1⟩ := lies_of5 hm (by omega)
    have lof : ∀ W : World, LiesO W (some ⟨bl, off, none⟩) L → Lies W bl off L := fun W h => by
      obtain ⟨b1, o1, e, m⟩ := lies_of5 h (by omega)
      simp only [Option.some.injEq, Addr.mk.injEq, and_true] at e
      rw [e.1, e.2]
      exact m
    obtain ⟨n, rfl⟩ := Int.eq_ofNat_of_zero_le l0
    have hn : n < L.length := by omega
    obtain ⟨j, hj, hlk⟩ := hF.s L[n] (List.getElem_mem hn)
    have hlk' : L[n]? = some (small (j : Int)) := by rw [List.getElem?_eq_getElem hn, hlk]
    have cw := fun (W : World) (k1 : LiesO W (some ⟨bl, off, none⟩) L) (k2 : StA W) => weights_ok a b c p0 p1 p2 p3 p4 n bl off cap L W (lof W k1) hr k2 (by omega)
    have cl := fun (W : World) (k1 : LiesO W (some ⟨bl, off, none⟩) L) => checkLink_any a b c p0 p1 p2 p3 p4 n 0 (some ⟨bl, off, none⟩) cap L W k1 hr (by omega)
    have cg := fun (W : World) (k1 : LiesO W (some ⟨bl, off, none⟩) L) => refGiven_any a b c p0 p1 p2 p3 p4 n 0 (some ⟨bl, off, none⟩) cap L W k1 hr (by omega)
    have cx := fun (W : World) (k1 : LiesO W (some ⟨bl, off, none⟩) L) => refWeightsX_of (cap := cap) hF hWO l0 l2 W (lof W k1)
    by_cases hy : 0 ≤ y ∧ y < 24
    · obtain ⟨y0, y1⟩ := hy
      obtain ⟨i, rfl⟩ := Int.eq_ofNat_of_zero_le y0
      have w1 := wg_of hF hWO l0 l1 i (by omega)
      have w2 := wg_of hF hWO l0 l1 j hj
      exact cFl_g a b c p0 p1 p2 p3 p4 n x i v q 0 (some ⟨bl, off, none⟩) cap L w (rtv (wprod a b c L [p0, p1, p2, p3, p4] n (small (i : Int)) (thr a b c n)) (wprod a b c L [p0, p1, p2, p3, p4] n (small (j : Int)) (thr a b c n))) (by omega) hm hst
        (fun W k1 k2 => flow_any a b c p0 p1 p2 p3 p4 n x i 0 v q (some ⟨bl, off, none⟩) cap L W k1 k2 _ (R24.of hls) hv cw)
        (fun W k1 => refFlow_any a b c p0 p1 p2 p3 p4 n x i 0 v q (some ⟨bl, off, none⟩) cap L W k1 _ hls hv cg (fun _ => cx))
        (fun W k1 k2 => ratio_ok a b c p0 p1 p2 p3 p4 n i bl off cap i j n L W (lof W k1) k2 hF hWO rfl hn rfl (by omega) hj hlk' w1 w2 (fun W k => cl W (.inr ⟨bl, off, rfl, k⟩)))
        (fun W k1 => refRatio_ok a b c p0 p1 p2 p3 p4 n i _ _ bl off cap i j n L W (lof W k1) _ hls rfl hn rfl (by omega) hj hlk' (wsK_get a b c n L [p0, p1, p2, p3, p4] (thr a b c n) i (by omega)) (wsK_get a b c n L [p0, p1, p2, p3, p4] (thr a b c n) j hj) w1 w2 (fun W k => cg W (.inr ⟨bl, off, rfl, k⟩)) (fun W k => cx W (.inr ⟨bl, off, rfl, k⟩)))
    · exact cFl_g a b c p0 p1 p2 p3 p4 n x y v q 1 (some ⟨bl, off, none⟩) cap L w (0, 0) (by omega) hm hst
        (fun W k1 k2 => flow_any a b c p0 p1 p2 p3 p4 n x y 0 v q (some ⟨bl, off, none⟩) cap L W k1 k2 _ (R24.of hls) hv cw)
        (fun W k1 => refFlow_any a b c p0 p1 p2 p3 p4 n x y 0 v q (some ⟨bl, off, none⟩) cap L W k1 _ hls hv cg (fun _ => cx))
        (fun W k1 _ => ratio_arg a b c p0 p1 p2 p3 p4 n y (some ⟨bl, off, none⟩) cap L W k1 hy cl)
        (fun W k1 => refRatio_arg a b c p0 p1 p2 p3 p4 n y (some ⟨bl, off, none⟩) cap L W k1 hy cg)
  · have cw := fun (W : World) (k1 : LiesO W ao L) (_ : StA W) => weights_bad a b c p0 p1 p2 p3 p4 l r ao cap L W k1 hr z (by omega)
    have cl := fun (W : World) (k1 : LiesO W ao L) => checkLink_any a b c p0 p1 p2 p3 p4 l r ao cap L W k1 hr (by omega)
    have cg := fun (W : World) (k1 : LiesO W ao L) => refGiven_any a b c p0 p1 p2 p3 p4 l r ao cap L W k1 hr (by omega)
    exact cFl_g a b c p0 p1 p2 p3 p4 l x y 0 r r ao cap L w (0, 0) (by omega) hm hst
      (fun W k1 k2 => flow_bad a b c p0 p1 p2 p3 p4 l x y r ao cap L W k1 k2 _ R24.z z cw)
      (fun W k1 => refFlow_bad a b c p0 p1 p2 p3 p4 l x y r ao cap L W k1 z cg)
      (fun W k1 _ => ratio_bad a b c p0 p1 p2 p3 p4 l y r ao cap L W k1 z cl)
      (fun W k1 => refRatio_bad a b c p0 p1 p2 p3 p4 l y r ao cap L W k1 z cg)

/-! ### The statement of the law ChanceFlows, out of its walk -/
set_option maxRecDepth 100000 in
theorem chanceFlows_lifted (os : Os) (started : os.Started) (H : Type) (enc : TypeId × Value → H) :
    ReturnsInHanded {} Tryz.checked os 5 .any (fun w args => (Rows.chanceFlowsSpec.pre enc Tryz.prog Tryz.f5 [] false w args ∧ laidMetH Tryz.prog Rows.chanceFlowsRow.laid w) ∧ sizedMet enc Tryz.prog Tryz.f5 (OpenSpec.ofChange Rows.chanceFlowsSpec) false w args) (Rows.chanceFlowsSpec.post enc Tryz.prog Tryz.f5 false true false false) := by
  refine returnsInHanded_of_change_and (C := Tryz.checked) (X := fun w _ => laidMetH Tryz.prog Rows.chanceFlowsRow.laid w) (fun _ _ _ hh h => h.of_heap hh) own started (by kernel_rfl) Tryz.func5
    (ChangeSpec.witness_shaped (enc := enc) (C := Tryz.checked) (os := os) (X := fun w _ => laidMetH Tryz.prog Rows.chanceFlowsRow.laid w) false (World.doorLaid Tryz.prog 17 os) #[.agg #[.int .i64 0, .int .i64 0, .int .i64 0, .slice none 0 0], .agg #[.int .i64 0, .int .i64 0, .int .i64 0, .int .i64 0, .int .i64 0], .agg #[.int .i64 0, .int .i64 0, .int .i64 0]] 8 rfl (World.shaped_of_RefB (by kernel_rfl) (by kernel_rfl)) (by kernel_rfl) (by kernel_rfl) (by kernel_rfl) (laidMetH_of_parts3 (fuel := 8) (laidMet_of_run' 8 (by kernel_rfl) (by kernel_rfl)) (by kernel_rfl) (by kernel_rfl))) ?_
  intro W base args ds gs before hval0 hW _ _ hL _
  have hval : ∀ (j : Nat) t v, Tryz.f5.params[j]? = some t → args[j]? = some v → Value.okWide Tryz.prog W .any base t v := hval0
  have hW' := hW
  obtain ⟨p, q, hA0, hV, rfl, hfz, hnd⟩ := hW
  have hA : DataW.TrodAll enc Tryz.prog W 0 (fun _ => true) true Tryz.f5.params.toList args.toList ds p := hA0
  rw [Tryz.params5] at hA hval
  obtain ⟨v0, vs0, d0, ds0, p0, q0, hargs, rfl, rfl, h0, r0⟩ := trodAll_cons hA
  obtain ⟨v1, vs1, d1, ds1, p1, q1, rfl, rfl, rfl, h1, r1⟩ := trodAll_cons r0
  obtain ⟨v2, vs2, d2, ds2, p2, q2, rfl, rfl, rfl, h2, r2⟩ := trodAll_cons r1
  obtain ⟨rfl, rfl, rfl⟩ := trodAll_nil r2
  obtain rfl : args = #[v0, v1, v2] := by cases args; simp_all
  obtain ⟨rfl, rfl⟩ := trodVars_none hV
  have k0 := h0
  have lt0 : ∀ x ∈ p0, x.block < W.heap.size := by obtain ⟨m, hm⟩ := k0; exact DataW.trod_lt m _ _ _ hm
  obtain ⟨x0, y0, z0, ao0, L0, cap0, rfl, hl0, hm0⟩ := open_field (hval 0 25 v0 rfl rfl) h0
  have k1 := h1
  have lt1 : ∀ x ∈ p1, x.block < W.heap.size := by obtain ⟨m, hm⟩ := k1; exact DataW.trod_lt m _ _ _ hm
  obtain ⟨x1, y1, z1, u1, v1, rfl⟩ := open_w5 (hval 1 26 v1 rfl rfl) h1
  have k2 := h2
  have lt2 : ∀ x ∈ p2, x.block < W.heap.size := by obtain ⟨m, hm⟩ := k2; exact DataW.trod_lt m _ _ _ hm
  obtain ⟨x2, y2, z2, rfl⟩ := open_at5 (hval 2 36 v2 rfl rfl) h2
  clear hA0 hval0
  refine (chanceFlows_walk x0 y0 z0 ao0 L0 cap0 x1 y1 z1 u1 v1 x2 y2 z2 W hl0 hm0 (sta_of_laid hL)).mono fun e W' ⟨he, bel⟩ => ?_
  subst he
  exact ⟨_, rfl, _, _, _, [], _, [], hW', trodAll_mk1 (shut_bool Tryz.underlying4 _), (trodAll_cons_mk (Below.trod laidOut (by kernel_rfl) (of_decide_eq_true (by kernel_rfl)) k0 bel lt0) (trodAll_cons_mk (Below.trod laidOut (by kernel_rfl) (of_decide_eq_true (by kernel_rfl)) k1 bel lt1) (trodAll_cons_mk (Below.trod laidOut (by kernel_rfl) (of_decide_eq_true (by kernel_rfl)) k2 bel lt2) trodAll_mk0))), rfl, bel.frame _, fun h => by cases h⟩

theorem chanceFlows_jf9 : (Rows.chanceFlowsRow.inPlace == Tryz.prog.inPlace 5) = true := by kernel_rfl
theorem chanceFlows_jf10 : (Rows.chanceFlowsRow.unfollowed == Tryz.prog.unfollowed 5) = true := by kernel_rfl
theorem chanceFlows_jf11 : (Rows.chanceFlowsRow.recurses == Tryz.prog.recurses 5) = true := by kernel_rfl
theorem chanceFlows_jf12 : (Rows.chanceFlowsRow.named == Tryz.prog.varsNamed 5) = true := by kernel_rfl
theorem chanceFlows_facts : joinedFacts Tryz.prog 5 Tryz.f5 Rows.chanceFlowsSpec Rows.chanceFlowsRow = true := by
  unfold joinedFacts
  exact (band (band (band (band (band (band (band (band (band (band (band (band (band (band (band (band (band (band (band (band (band (band (band (band (band (band (band (band (band (band (band (by kernel_rfl) jf1) jf2) (by kernel_rfl)) (by kernel_rfl)) (by kernel_rfl)) jf6) (by kernel_rfl)) jf8) chanceFlows_jf9) chanceFlows_jf10) chanceFlows_jf11) chanceFlows_jf12) (by kernel_rfl)) (by kernel_rfl)) (by kernel_rfl)) (by kernel_rfl)) (by kernel_rfl)) (by kernel_rfl)) (by kernel_rfl)) (by kernel_rfl)) (by kernel_rfl)) (by kernel_rfl)) (by kernel_rfl)) jf24) jf25) jf26) jf27) (by kernel_rfl)) (by kernel_rfl)) (by kernel_rfl)) (by kernel_rfl))

theorem chanceFlows_over : Rows.chanceFlowsRow.holds Tryz.pinned (OpenSpec.ofChange Rows.chanceFlowsSpec) :=
  OpenClaim.holds_of_wide 5 Tryz.f5 rfl rfl rfl rfl rfl rfl rfl ⟨rfl, rfl, rfl, rfl, rfl⟩ rfl rfl rfl rfl rfl (by kernel_rfl) Tryz.func5 chanceFlows_facts
    (of_decide_eq_true (by kernel_rfl)) (by unfold Func.isWrapper; first | (rw [if_pos (by decide +kernel)]; kernel_rfl) | (rw [if_neg (by decide +kernel)]; exact ⟨rfl, rfl⟩))
    (fun os started H enc _ => chanceFlows_lifted os started H enc)

theorem chanceFlows_holds : Rows.ChanceFlowsCardSaid :=
  Claim7.holds_tied_plain_at .later [] [.data] true (true, "53c1b5e1e7764523c431423f857e3b43d4884bb98fa3eac6047523bbb346dfed") false
    chanceFlows_over (fun _ h => by cases h) (by kernel_rfl) (fun _ h => by cases h) chanceFlows_row_tie rfl ⟨rfl, rfl⟩ (by kernel_rfl) rfl
    (fun f fn hf hfn => by
      obtain rfl : f = 5 := Option.some.inj ((show Tryz.prog.funcNamed "plaquette/plaquettelaw05.ChanceFlows" = some 5 by kernel_rfl).symm.trans hf) |>.symm
      obtain rfl : fn = Tryz.f5 := (Option.some.inj (Tryz.func5.symm.trans hfn)).symm
      exact ⟨by kernel_rfl, fun j t ht => by
        rw [Tryz.params5] at ht
        have hm : t ∈ [25, 26, 36] := by simpa using Array.mem_of_getElem? ht
        have hall : ([25, 26, 36].all fun u => !Tryz.prog.wantsStandIn u) = true := by kernel_rfl
        exact (show Tryz.prog.wantsStandIn t = false by simpa using List.all_eq_true.1 hall t hm)⟩)
    (by kernel_rfl)
#print axioms chanceFlows_holds

end Go.Proofs.YtpfhjdmgkckjfaaGreatDoor
