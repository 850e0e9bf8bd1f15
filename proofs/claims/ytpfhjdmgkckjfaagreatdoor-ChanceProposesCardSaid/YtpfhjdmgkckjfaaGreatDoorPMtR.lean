/- Metropolis of the document's answers.
Conditions: those written at each theorem. -/
import Derived.Test.YtpfhjdmgkckjfaaGreatDoorPMtC
namespace Go.Proofs.YtpfhjdmgkckjfaaGreatDoor
set_option linter.unusedVariables false
set_option linter.unusedSimpArgs false
set_option maxRecDepth 1000000
open Go.RowKit
open Um Tm Cm

set_option maxHeartbeats 12800000 in
theorem refMet_bad (a b c p0 p1 p2 p3 p4 l x d r : Int) (ao : Option Addr) (cap : Nat) (L : List Q) (w : World)
    (hm : LiesO w ao L) (hr : r ≠ 0)
    (c1 : ∀ (W : World) (_ : LiesO W ao L), Calls Tryz.prog 43 #[.agg #[.int .i64 a, .int .i64 b, .int .i64 c, .slice ao L.length cap], .agg #[.int .i64 p0, .int .i64 p1, .int .i64 p2, .int .i64 p3, .int .i64 p4], .int .i64 l] W fun e w' => e = .returned (.int .i64 r) ∧ Below W.heap.size W w') : Calls Tryz.prog 26 #[.agg #[.int .i64 a, .int .i64 b, .int .i64 c, .slice ao L.length cap], .agg #[.int .i64 p0, .int .i64 p1, .int .i64 p2, .int .i64 p3, .int .i64 p4], .int .i64 l, .int .i64 x, .int .i64 d] w fun e w' => e = .returned (.tuple #[.agg #[.int .i64 0, .int .i64 0, .int .i64 0, .slice none 0 0], .bool false, .int .i64 r]) ∧ Below w.heap.size w w' := by
  have h0' : (r != 0) = true := by simpa using hr
  have h0'' : (r == 0) = false := by simpa using hr
  have H0 := Lib.hid hm
  clear hm hr
  go_enter Tryz.func26, Tryz.ntmps26
  go_wp2_with (fail)
  refine (c1 _ (H0.out.later ba3)).mono ?_
  rintro e w1 ⟨rfl, hw1⟩
  have bw1 : Below w.heap.size w w1 := bel3 hw1
  have F1 := Lib.hid (FW.n3a.later hw1)
  have E1 := Lib.hid (C5.n3b.later hw1)
  have Z1 := Lib.hid (FW.n3c.later hw1)
  have H1 := Lib.hid (H0.out.later bw1)
  have HB1 := Lib.hid bw1
  clear hw1 bw1 H0
  clear H1
  clear F1
  clear E1
  obtain ⟨z1_0, z1_1, z1_2, z1_3, z1_4, z1_5⟩ := Z1.out
  go_wp2
  refine bodyPost_ret (v := .tuple #[.agg #[.int .i64 0, .int .i64 0, .int .i64 0, .slice none 0 0], .bool false, .int .i64 r]) ?_ rfl ⟨rfl, ?_⟩
  · simp [results, Tryz.results26, go_sem, z1_0, z1_1, z1_2, z1_3, z1_5]
  · have hb := HB1.out
    repeat (first | (with_reducible exact Below.refl _ _) | (with_reducible refine Below.setCell ?_ ?_ _) | (with_reducible refine Below.drew ?_) | (with_reducible refine Below.alloc ?_ ?_ _) | (with_reducible refine Below.trans ?_ (Below.mono hb ?_)) | (with_reducible exact hb.size) | omega | (simp <;> omega) | (simp <;> (have s := hb.size; omega)) | (have s0 := hb.size; (try simp at s0); (try simp); omega))
set_option maxHeartbeats 12800000 in
theorem refMet_turn (a b c p0 p1 p2 p3 p4 l x d : Int) (bl off cap : Nat) (L : List Q) (w : World)
    (hm : Lies w bl off L) (A : Array Value) (hA : R24 A) (hx : ¬ (0 ≤ x ∧ x < 24))
    (c1 : ∀ (W : World) (_ : Lies W bl off L), Calls Tryz.prog 43 #[.agg #[.int .i64 a, .int .i64 b, .int .i64 c, .slice (some ⟨bl, off, none⟩) L.length cap], .agg #[.int .i64 p0, .int .i64 p1, .int .i64 p2, .int .i64 p3, .int .i64 p4], .int .i64 l] W fun e w' => e = .returned (.int .i64 0) ∧ Below W.heap.size W w')
    (c2 : ∀ (W : World) (_ : Lies W bl off L), Calls Tryz.prog 44 #[.agg #[.int .i64 a, .int .i64 b, .int .i64 c, .slice (some ⟨bl, off, none⟩) L.length cap], .agg #[.int .i64 p0, .int .i64 p1, .int .i64 p2, .int .i64 p3, .int .i64 p4], .int .i64 l] W fun e w' => e = .returned (.agg A) ∧ Below W.heap.size W w') : Calls Tryz.prog 26 #[.agg #[.int .i64 a, .int .i64 b, .int .i64 c, .slice (some ⟨bl, off, none⟩) L.length cap], .agg #[.int .i64 p0, .int .i64 p1, .int .i64 p2, .int .i64 p3, .int .i64 p4], .int .i64 l, .int .i64 x, .int .i64 d] w fun e w' => e = .returned (.tuple #[.agg #[.int .i64 0, .int .i64 0, .int .i64 0, .slice none 0 0], .bool false, .int .i64 1]) ∧ Below w.heap.size w w' := by
  have k1 := fun W => within5v_any x 0 23 W false (.inr ⟨by omega, rfl⟩)
  have H0 := Lib.hid hm
  have SZ := Lib.hid hA.sz
  have OL := Lib.hid hA.ol
  have ON := Lib.hid hA.one
  clear hm hA
  clear hx
  go_enter Tryz.func26, Tryz.ntmps26
  go_wp2_with (fail)
  refine (c1 _ (H0.out.later ba3)).mono ?_
  rintro e w1 ⟨rfl, hw1⟩
  have bw1 : Below w.heap.size w w1 := bel3 hw1
  have F1 := Lib.hid (FW.n3a.later hw1)
  have E1 := Lib.hid (C5.n3b.later hw1)
  have Z1 := Lib.hid (FW.n3c.later hw1)
  have H1 := Lib.hid (H0.out.later bw1)
  have HB1 := Lib.hid bw1
  clear hw1 bw1 H0
  obtain ⟨f1_0, f1_1, f1_2, f1_3, f1_4, f1_5⟩ := F1.out
  obtain ⟨e1_0, e1_1, e1_2, e1_3, e1_4, e1_5, e1_6⟩ := E1.out
  go_wp2_with (fail)
  refine (c2 _ (H1.out)).mono ?_
  rintro e w2 ⟨rfl, hw2⟩
  clear f1_0 f1_1 f1_2 f1_3 f1_4 f1_5 e1_0 e1_1 e1_2 e1_3 e1_4 e1_5 e1_6
  have bw2 : Below w1.heap.size w1 w2 := hw2
  have H2 := Lib.hid (H1.out.later bw2)
  have F2 := Lib.hid (F1.out.later bw2)
  have E2 := Lib.hid (E1.out.later bw2)
  have Z2 := Lib.hid (Z1.out.later bw2)
  have HB2 := Lib.hid (HB1.out.trans (bw2.mono HB1.out.size))
  clear hw2 bw2 H1 F1 E1 Z1 HB1
  clear E2
  clear H2
  clear F2
  have TZ := Lib.hid (ABx.news (w := w2) (T := 29) #[.int .i64 0, .int .i64 0, .int .i64 0, .int .i64 0, .int .i64 0, .int .i64 0, .int .i64 0, .int .i64 0, .int .i64 0, .int .i64 0, .int .i64 0, .int .i64 0, .int .i64 0, .int .i64 0, .int .i64 0, .int .i64 0, .int .i64 0, .int .i64 0, .int .i64 0, .int .i64 0, .int .i64 0, .int .i64 0, .int .i64 0, .int .i64 0])
  have nx := r24_below w2 A
  have Z3 := Lib.hid (Z2.out.later nx)
  have HB3 := Lib.hid (HB2.out.trans (nx.mono HB2.out.size))
  have A3 : Hid (RowT _ _ _ _) := Lib.hid ⟨r24_new w2 A⟩
  clear nx HB2 Z2
  go_wp2_with (first | (refine wpList_store_row rfl 29 (.tmp 14) (.tmp 27) rfl w2.heap.size A rfl rfl 29 _ TZ.out.h SZ.out OL.out ON.out ?_))
  generalize (w2.alloc (.cells #[.int .i64 0, .int .i64 0, .int .i64 0, .int .i64 0, .int .i64 0, .int .i64 0, .int .i64 0, .int .i64 0, .int .i64 0, .int .i64 0, .int .i64 0, .int .i64 0, .int .i64 0, .int .i64 0, .int .i64 0, .int .i64 0, .int .i64 0, .int .i64 0, .int .i64 0, .int .i64 0, .int .i64 0, .int .i64 0, .int .i64 0, .int .i64 0] 29)).setRow w2.heap.size A = w3 at *
  refine (k1 _).mono ?_
  rintro e wx ⟨rfl, rfl⟩
  obtain ⟨z3_0, z3_1, z3_2, z3_3, z3_4, z3_5⟩ := Z3.out
  go_wp2
  refine bodyPost_ret (v := .tuple #[.agg #[.int .i64 0, .int .i64 0, .int .i64 0, .slice none 0 0], .bool false, .int .i64 1]) ?_ rfl ⟨rfl, ?_⟩
  · simp [results, Tryz.results26, go_sem, z3_0, z3_1, z3_2, z3_3, z3_5]
  · have hb := HB3.out
    repeat (first | (with_reducible exact Below.refl _ _) | (with_reducible refine Below.setCell ?_ ?_ _) | (with_reducible refine Below.drew ?_) | (with_reducible refine Below.alloc ?_ ?_ _) | (with_reducible refine Below.trans ?_ (Below.mono hb ?_)) | (with_reducible exact hb.size) | omega | (simp <;> omega) | (simp <;> (have s := hb.size; omega)) | (have s0 := hb.size; (try simp at s0); (try simp); omega))
set_option maxHeartbeats 12800000 in
theorem refMet_draw (a b c p0 p1 p2 p3 p4 l x d be : Int) (bl off cap n j : Nat) (L : List Q) (w : World)
    (hm : Lies w bl off L) (A : Array Value) (hA : R24 A) (hx : 0 ≤ x ∧ x < 24) (hl : l = n) (hn : n < L.length) (hj : j < 24) (hlk : L[n]? = some (small j)) (hbe : A[j]? = some (.int .i64 be)) (hbw : Wg be) (hd : ¬ (0 ≤ d ∧ d < be))
    (c1 : ∀ (W : World) (_ : Lies W bl off L), Calls Tryz.prog 43 #[.agg #[.int .i64 a, .int .i64 b, .int .i64 c, .slice (some ⟨bl, off, none⟩) L.length cap], .agg #[.int .i64 p0, .int .i64 p1, .int .i64 p2, .int .i64 p3, .int .i64 p4], .int .i64 l] W fun e w' => e = .returned (.int .i64 0) ∧ Below W.heap.size W w')
    (c2 : ∀ (W : World) (_ : Lies W bl off L), Calls Tryz.prog 44 #[.agg #[.int .i64 a, .int .i64 b, .int .i64 c, .slice (some ⟨bl, off, none⟩) L.length cap], .agg #[.int .i64 p0, .int .i64 p1, .int .i64 p2, .int .i64 p3, .int .i64 p4], .int .i64 l] W fun e w' => e = .returned (.agg A) ∧ Below W.heap.size W w') : Calls Tryz.prog 26 #[.agg #[.int .i64 a, .int .i64 b, .int .i64 c, .slice (some ⟨bl, off, none⟩) L.length cap], .agg #[.int .i64 p0, .int .i64 p1, .int .i64 p2, .int .i64 p3, .int .i64 p4], .int .i64 l, .int .i64 x, .int .i64 d] w fun e w' => e = .returned (.tuple #[.agg #[.int .i64 0, .int .i64 0, .int .i64 0, .slice none 0 0], .bool false, .int .i64 1]) ∧ Below w.heap.size w w' := by
  have k1 := fun W => within5v_any x 0 23 W true (.inl ⟨by omega, by omega, rfl⟩)
  have cN := fun (W : World) => number5_any j hj W
  have HLK := Lib.hid hlk
  have HBE := Lib.hid hbe
  obtain ⟨be0, be1⟩ := hbw
  have k2 := fun W => within5v_any d 0 (be - 1) W false (.inr ⟨by omega, rfl⟩)
  have H0 := Lib.hid hm
  have SZ := Lib.hid hA.sz
  have OL := Lib.hid hA.ol
  have ON := Lib.hid hA.one
  clear hm hA
  clear hx hd
  clear hlk hbe
  subst hl
  have i1 : (n : Int) < (L.length : Int) := by omega
  have i3 : (j : Int) < 24 := by omega
  generalize small (j : Int) = u at *
  go_enter Tryz.func26, Tryz.ntmps26
  go_wp2_with (fail)
  refine (c1 _ (H0.out.later ba3)).mono ?_
  rintro e w1 ⟨rfl, hw1⟩
  have bw1 : Below w.heap.size w w1 := bel3 hw1
  have F1 := Lib.hid (FW.n3a.later hw1)
  have E1 := Lib.hid (C5.n3b.later hw1)
  have Z1 := Lib.hid (FW.n3c.later hw1)
  have H1 := Lib.hid (H0.out.later bw1)
  have HB1 := Lib.hid bw1
  clear hw1 bw1 H0
  obtain ⟨f1_0, f1_1, f1_2, f1_3, f1_4, f1_5⟩ := F1.out
  obtain ⟨e1_0, e1_1, e1_2, e1_3, e1_4, e1_5, e1_6⟩ := E1.out
  go_wp2_with (fail)
  refine (c2 _ (H1.out)).mono ?_
  rintro e w2 ⟨rfl, hw2⟩
  clear f1_0 f1_1 f1_2 f1_3 f1_4 f1_5 e1_0 e1_1 e1_2 e1_3 e1_4 e1_5 e1_6
  have bw2 : Below w1.heap.size w1 w2 := hw2
  have H2 := Lib.hid (H1.out.later bw2)
  have F2 := Lib.hid (F1.out.later bw2)
  have E2 := Lib.hid (E1.out.later bw2)
  have Z2 := Lib.hid (Z1.out.later bw2)
  have HB2 := Lib.hid (HB1.out.trans (bw2.mono HB1.out.size))
  clear hw2 bw2 H1 F1 E1 Z1 HB1
  clear E2
  have TZ := Lib.hid (ABx.news (w := w2) (T := 29) #[.int .i64 0, .int .i64 0, .int .i64 0, .int .i64 0, .int .i64 0, .int .i64 0, .int .i64 0, .int .i64 0, .int .i64 0, .int .i64 0, .int .i64 0, .int .i64 0, .int .i64 0, .int .i64 0, .int .i64 0, .int .i64 0, .int .i64 0, .int .i64 0, .int .i64 0, .int .i64 0, .int .i64 0, .int .i64 0, .int .i64 0, .int .i64 0])
  have nx := r24_below w2 A
  have H3 := Lib.hid (H2.out.later nx)
  have F3 := Lib.hid (F2.out.later nx)
  have Z3 := Lib.hid (Z2.out.later nx)
  have HB3 := Lib.hid (HB2.out.trans (nx.mono HB2.out.size))
  have A3 : Hid (RowT _ _ _ _) := Lib.hid ⟨r24_new w2 A⟩
  clear nx HB2 H2 F2 Z2
  go_wp2_with (first | (refine wpList_store_row rfl 29 (.tmp 14) (.tmp 27) rfl w2.heap.size A rfl rfl 29 _ TZ.out.h SZ.out OL.out ON.out ?_))
  generalize (w2.alloc (.cells #[.int .i64 0, .int .i64 0, .int .i64 0, .int .i64 0, .int .i64 0, .int .i64 0, .int .i64 0, .int .i64 0, .int .i64 0, .int .i64 0, .int .i64 0, .int .i64 0, .int .i64 0, .int .i64 0, .int .i64 0, .int .i64 0, .int .i64 0, .int .i64 0, .int .i64 0, .int .i64 0, .int .i64 0, .int .i64 0, .int .i64 0, .int .i64 0] 29)).setRow w2.heap.size A = w3 at *
  refine (k1 _).mono ?_
  rintro e wx ⟨rfl, rfl⟩
  clear TZ
  obtain ⟨f3_0, f3_1, f3_2, f3_3, f3_4, f3_5⟩ := F3.out
  obtain ⟨g0, g1, g2, g3, g4⟩ := H3.out.atP HLK.out
  go_wp2_with (fail)
  refine (cN _).mono ?_
  rintro e w4 ⟨rfl, hw4⟩
  clear f3_0 f3_1 f3_2 f3_3 f3_4 f3_5 g0 g1 g2 g3 g4
  have bw4 : Below w3.heap.size w3 w4 := hw4
  have H4 := Lib.hid (H3.out.later bw4)
  have F4 := Lib.hid (F3.out.later bw4)
  have Z4 := Lib.hid (Z3.out.later bw4)
  have A4 := Lib.hid (A3.out.later bw4)
  have HB4 := Lib.hid (HB3.out.trans (bw4.mono HB3.out.size))
  clear hw4 bw4 H3 F3 Z3 A3 HB3
  have aj := r24_cell A4.out.h HBE.out
  go_wp2_with (fail)
  refine (k2 _).mono ?_
  rintro e wx ⟨rfl, rfl⟩
  clear aj
  clear H4
  clear F4
  clear A4
  obtain ⟨z4_0, z4_1, z4_2, z4_3, z4_4, z4_5⟩ := Z4.out
  go_wp2
  refine bodyPost_ret (v := .tuple #[.agg #[.int .i64 0, .int .i64 0, .int .i64 0, .slice none 0 0], .bool false, .int .i64 1]) ?_ rfl ⟨rfl, ?_⟩
  · simp [results, Tryz.results26, go_sem, z4_0, z4_1, z4_2, z4_3, z4_5]
  · have hb := HB4.out
    repeat (first | (with_reducible exact Below.refl _ _) | (with_reducible refine Below.setCell ?_ ?_ _) | (with_reducible refine Below.drew ?_) | (with_reducible refine Below.alloc ?_ ?_ _) | (with_reducible refine Below.trans ?_ (Below.mono hb ?_)) | (with_reducible exact hb.size) | omega | (simp <;> omega) | (simp <;> (have s := hb.size; omega)) | (have s0 := hb.size; (try simp at s0); (try simp); omega))
set_option maxHeartbeats 12800000 in
theorem refMet_no (a b c p0 p1 p2 p3 p4 l x d be af : Int) (bl off cap n j t m : Nat) (L : List Q) (w : World)
    (hm : Lies w bl off L) (A : Array Value) (hA : R24 A) (hx : 0 ≤ x ∧ x < 24) (hl : l = n) (hn : n < L.length) (hj : j < 24) (hlk : L[n]? = some (small j)) (hbe : A[j]? = some (.int .i64 be)) (hbw : Wg be) (hd : 0 ≤ d ∧ d < be) (hxt : x = t) (hmm : m < 24) (hmul : low (mul (small t) (small j)) = small m) (haf : A[m]? = some (.int .i64 af)) (hlen : L.length ≤ 100) (ha : ¬ d < af)
    (c1 : ∀ (W : World) (_ : Lies W bl off L), Calls Tryz.prog 43 #[.agg #[.int .i64 a, .int .i64 b, .int .i64 c, .slice (some ⟨bl, off, none⟩) L.length cap], .agg #[.int .i64 p0, .int .i64 p1, .int .i64 p2, .int .i64 p3, .int .i64 p4], .int .i64 l] W fun e w' => e = .returned (.int .i64 0) ∧ Below W.heap.size W w')
    (c2 : ∀ (W : World) (_ : Lies W bl off L), Calls Tryz.prog 44 #[.agg #[.int .i64 a, .int .i64 b, .int .i64 c, .slice (some ⟨bl, off, none⟩) L.length cap], .agg #[.int .i64 p0, .int .i64 p1, .int .i64 p2, .int .i64 p3, .int .i64 p4], .int .i64 l] W fun e w' => e = .returned (.agg A) ∧ Below W.heap.size W w') : Calls Tryz.prog 26 #[.agg #[.int .i64 a, .int .i64 b, .int .i64 c, .slice (some ⟨bl, off, none⟩) L.length cap], .agg #[.int .i64 p0, .int .i64 p1, .int .i64 p2, .int .i64 p3, .int .i64 p4], .int .i64 l, .int .i64 x, .int .i64 d] w fun e w' => (∃ g gk : Nat, e = .returned (.tuple #[.agg #[.int .i64 a, .int .i64 b, .int .i64 c, .slice (some ⟨g, 0, none⟩) L.length gk], .bool false, .int .i64 0]) ∧ LBox w' g (L) ∧ w.heap.size ≤ g) ∧ Below w.heap.size w w' := by
  have k1 := fun W => within5v_any x 0 23 W true (.inl ⟨by omega, by omega, rfl⟩)
  have cN := fun (W : World) => number5_any j hj W
  have HLK := Lib.hid hlk
  have HBE := Lib.hid hbe
  obtain ⟨be0, be1⟩ := hbw
  have k2 := fun W => within5v_any d 0 (be - 1) W true (.inl ⟨by omega, by omega, rfl⟩)
  have cU := fun (W : World) => unit5_any t W (by omega) (by omega)
  have hs1 : Sm (small (j : Int)) := ⟨j, hj, rfl⟩
  have hs3 : Sm (small (t : Int)) := ⟨t, by omega, rfl⟩
  have cM := fun (W : World) => mulS_any (small (t : Int)) (small (j : Int)) W hs3 hs1
  rw [hmul] at cM
  have cO := fun (W : World) => number5_any m hmm W
  have HAF := Lib.hid haf
  have cW := fun (W : World) (h : Lies W bl off L) => refCopy4_some a b c bl off cap L W h (by omega) hlen
  have H0 := Lib.hid hm
  have SZ := Lib.hid hA.sz
  have OL := Lib.hid hA.ol
  have ON := Lib.hid hA.one
  clear hm hA
  clear hx hd hs1 hs3 hmul haf
  subst hxt
  clear hlk hbe
  subst hl
  have i1 : (n : Int) < (L.length : Int) := by omega
  have i3 : (j : Int) < 24 := by omega
  generalize small (j : Int) = u at *
  have i4 : (m : Int) < 24 := by omega
  generalize small (t : Int) = y at *
  generalize small (m : Int) = v at *
  go_enter Tryz.func26, Tryz.ntmps26
  go_wp2_with (fail)
  refine (c1 _ (H0.out.later ba3)).mono ?_
  rintro e w1 ⟨rfl, hw1⟩
  have bw1 : Below w.heap.size w w1 := bel3 hw1
  have F1 := Lib.hid (FW.n3a.later hw1)
  have E1 := Lib.hid (C5.n3b.later hw1)
  have Z1 := Lib.hid (FW.n3c.later hw1)
  have H1 := Lib.hid (H0.out.later bw1)
  have HB1 := Lib.hid bw1
  clear hw1 bw1 H0
  obtain ⟨f1_0, f1_1, f1_2, f1_3, f1_4, f1_5⟩ := F1.out
  obtain ⟨e1_0, e1_1, e1_2, e1_3, e1_4, e1_5, e1_6⟩ := E1.out
  go_wp2_with (fail)
  refine (c2 _ (H1.out)).mono ?_
  rintro e w2 ⟨rfl, hw2⟩
  clear f1_0 f1_1 f1_2 f1_3 f1_4 f1_5 e1_0 e1_1 e1_2 e1_3 e1_4 e1_5 e1_6
  have bw2 : Below w1.heap.size w1 w2 := hw2
  have H2 := Lib.hid (H1.out.later bw2)
  have F2 := Lib.hid (F1.out.later bw2)
  have E2 := Lib.hid (E1.out.later bw2)
  have Z2 := Lib.hid (Z1.out.later bw2)
  have HB2 := Lib.hid (HB1.out.trans (bw2.mono HB1.out.size))
  clear hw2 bw2 H1 F1 E1 Z1 HB1
  clear E2
  have TZ := Lib.hid (ABx.news (w := w2) (T := 29) #[.int .i64 0, .int .i64 0, .int .i64 0, .int .i64 0, .int .i64 0, .int .i64 0, .int .i64 0, .int .i64 0, .int .i64 0, .int .i64 0, .int .i64 0, .int .i64 0, .int .i64 0, .int .i64 0, .int .i64 0, .int .i64 0, .int .i64 0, .int .i64 0, .int .i64 0, .int .i64 0, .int .i64 0, .int .i64 0, .int .i64 0, .int .i64 0])
  have nx := r24_below w2 A
  have H3 := Lib.hid (H2.out.later nx)
  have F3 := Lib.hid (F2.out.later nx)
  have Z3 := Lib.hid (Z2.out.later nx)
  have HB3 := Lib.hid (HB2.out.trans (nx.mono HB2.out.size))
  have A3 : Hid (RowT _ _ _ _) := Lib.hid ⟨r24_new w2 A⟩
  clear nx HB2 H2 F2 Z2
  go_wp2_with (first | (refine wpList_store_row rfl 29 (.tmp 14) (.tmp 27) rfl w2.heap.size A rfl rfl 29 _ TZ.out.h SZ.out OL.out ON.out ?_))
  generalize (w2.alloc (.cells #[.int .i64 0, .int .i64 0, .int .i64 0, .int .i64 0, .int .i64 0, .int .i64 0, .int .i64 0, .int .i64 0, .int .i64 0, .int .i64 0, .int .i64 0, .int .i64 0, .int .i64 0, .int .i64 0, .int .i64 0, .int .i64 0, .int .i64 0, .int .i64 0, .int .i64 0, .int .i64 0, .int .i64 0, .int .i64 0, .int .i64 0, .int .i64 0] 29)).setRow w2.heap.size A = w3 at *
  refine (k1 _).mono ?_
  rintro e wx ⟨rfl, rfl⟩
  clear TZ
  obtain ⟨f3_0, f3_1, f3_2, f3_3, f3_4, f3_5⟩ := F3.out
  obtain ⟨g0, g1, g2, g3, g4⟩ := H3.out.atP HLK.out
  go_wp2_with (fail)
  refine (cN _).mono ?_
  rintro e w4 ⟨rfl, hw4⟩
  clear f3_0 f3_1 f3_2 f3_3 f3_4 f3_5 g0 g1 g2 g3 g4
  have bw4 : Below w3.heap.size w3 w4 := hw4
  have H4 := Lib.hid (H3.out.later bw4)
  have F4 := Lib.hid (F3.out.later bw4)
  have Z4 := Lib.hid (Z3.out.later bw4)
  have A4 := Lib.hid (A3.out.later bw4)
  have HB4 := Lib.hid (HB3.out.trans (bw4.mono HB3.out.size))
  clear hw4 bw4 H3 F3 Z3 A3 HB3
  have aj := r24_cell A4.out.h HBE.out
  go_wp2_with (fail)
  refine (k2 _).mono ?_
  rintro e wx ⟨rfl, rfl⟩
  clear aj
  go_upto_region 7 with (fail)
  go_cut [15] from 15 to 53 (fun s15 wx => ∃ bb : Nat, s15 = .pointer (some ⟨bb, 0, none⟩) ∧ Hid (LBox wx bb [v]) ∧ Hid (FW wx w.heap.size a b c (.slice (some ⟨bl, off, none⟩) L.length cap)) ∧ Hid (FW wx (w.heap.size + 1 + 1) 0 0 0 (.slice none 0 0)) ∧ Hid (RowT wx w2.heap.size 29 A) ∧ Hid (Lies wx bl off L) ∧ Hid (Below w.heap.size w wx) ∧ w.heap.size + 1 + 1 < bb)
  case first =>
    obtain ⟨f0, f1, f2, s0, ff, fl⟩ := F4.out
    obtain ⟨g0, g1, g2, g3, g4⟩ := H4.out.atP HLK.out
    have K5 : Hid (∀ w' : World, Below w4.heap.size w4 w' → (w'.cell? ⟨w.heap.size, 3, none⟩ = some (.slice (some ⟨bl, off, none⟩) L.length cap) ∧ w'.cell? ⟨bl, off + n * 5, none⟩ = some (.int .i64 u.a) ∧ w'.cell? ⟨bl, off + n * 5 + 1, none⟩ = some (.int .i64 u.b) ∧ w'.cell? ⟨bl, off + n * 5 + 2, none⟩ = some (.int .i64 u.c) ∧ w'.cell? ⟨bl, off + n * 5 + 3, none⟩ = some (.int .i64 u.d) ∧ w'.cell? ⟨bl, off + n * 5 + 4, none⟩ = some (.int .i64 u.n))) := Lib.hid (fun w' h => ⟨held_belowG h s0, held_belowG h g0, held_belowG h g1, held_belowG h g2, held_belowG h g3, held_belowG h g4⟩)
    have K6 : Hid (∀ (w' : World) (p : Nat) (v0 v1 v2 v3 v4 : Value), Below w4.heap.size w4 w' → w4.heap.size ≤ p → ((((((w'.setCell ⟨p, 0, none⟩ v0).setCell ⟨p, 1, none⟩ v1).setCell ⟨p, 2, none⟩ v2).setCell ⟨p, 3, none⟩ v3).setCell ⟨p, 4, none⟩ v4).cell? ⟨w.heap.size, 3, none⟩ = some (.slice (some ⟨bl, off, none⟩) L.length cap) ∧ (((((w'.setCell ⟨p, 0, none⟩ v0).setCell ⟨p, 1, none⟩ v1).setCell ⟨p, 2, none⟩ v2).setCell ⟨p, 3, none⟩ v3).setCell ⟨p, 4, none⟩ v4).cell? ⟨bl, off + n * 5, none⟩ = some (.int .i64 u.a) ∧ (((((w'.setCell ⟨p, 0, none⟩ v0).setCell ⟨p, 1, none⟩ v1).setCell ⟨p, 2, none⟩ v2).setCell ⟨p, 3, none⟩ v3).setCell ⟨p, 4, none⟩ v4).cell? ⟨bl, off + n * 5 + 1, none⟩ = some (.int .i64 u.b) ∧ (((((w'.setCell ⟨p, 0, none⟩ v0).setCell ⟨p, 1, none⟩ v1).setCell ⟨p, 2, none⟩ v2).setCell ⟨p, 3, none⟩ v3).setCell ⟨p, 4, none⟩ v4).cell? ⟨bl, off + n * 5 + 2, none⟩ = some (.int .i64 u.c) ∧ (((((w'.setCell ⟨p, 0, none⟩ v0).setCell ⟨p, 1, none⟩ v1).setCell ⟨p, 2, none⟩ v2).setCell ⟨p, 3, none⟩ v3).setCell ⟨p, 4, none⟩ v4).cell? ⟨bl, off + n * 5 + 3, none⟩ = some (.int .i64 u.d) ∧ (((((w'.setCell ⟨p, 0, none⟩ v0).setCell ⟨p, 1, none⟩ v1).setCell ⟨p, 2, none⟩ v2).setCell ⟨p, 3, none⟩ v3).setCell ⟨p, 4, none⟩ v4).cell? ⟨bl, off + n * 5 + 4, none⟩ = some (.int .i64 u.n))) := Lib.hid (fun w' p v0 v1 v2 v3 v4 h hp => by
      have g := grown_setCells p [v0, v1, v2, v3, v4] 0 w'
      have ne : ∀ (q i : Nat) (v : Value), w4.cell? ⟨q, i, none⟩ = some v → some q ≠ some p := fun q i v hq e => by have h1 := World.block_lt_of_cell? _ _ hq; have : q = p := Option.some.inj e; have : q < w4.heap.size := h1; omega
      exact ⟨g.cell (held_belowG h s0) (ne _ _ _ s0), g.cell (held_belowG h g0) (ne _ _ _ g0), g.cell (held_belowG h g1) (ne _ _ _ g1), g.cell (held_belowG h g2) (ne _ _ _ g2), g.cell (held_belowG h g3) (ne _ _ _ g3), g.cell (held_belowG h g4) (ne _ _ _ g4)⟩)
    clear f0 f1 f2 ff fl
    go_wp2_with (fail)
    try simp only [Act.put]
    go_region_held3 (fun w' => w'.cell? ⟨w.heap.size, 3, none⟩ = some (.slice (some ⟨bl, off, none⟩) L.length cap) ∧ w'.cell? ⟨bl, off + n * 5, none⟩ = some (.int .i64 u.a) ∧ w'.cell? ⟨bl, off + n * 5 + 1, none⟩ = some (.int .i64 u.b) ∧ w'.cell? ⟨bl, off + n * 5 + 2, none⟩ = some (.int .i64 u.c) ∧ w'.cell? ⟨bl, off + n * 5 + 3, none⟩ = some (.int .i64 u.d) ∧ w'.cell? ⟨bl, off + n * 5 + 4, none⟩ = some (.int .i64 u.n))
      (first | (with_reducible exact K6.out _ _ _ _ _ _ _ B6 nB) | (with_reducible exact K6.out _ _ _ _ _ _ _ (B6a _) nB) | (with_reducible exact K5.out _ (B6a _)) | (with_reducible exact K5.out _ B6) | (with_reducible exact K5.out _ (B5a _)) | (with_reducible exact K5.out _ B5) | (with_reducible exact K5.out _ ba1) | (with_reducible exact K5.out _ (Below.refl _ _)) | go_keep)
      (first
        | ((with_reducible refine (cU _).mono ?_); rintro e z5 ⟨rfl, hw5⟩; have hb5 := belDG5 hw5; have B5 : Below w4.heap.size w4 z5 := hb5; have B5a : ∀ o, Below w4.heap.size w4 (z5.alloc o) := (fun o => B5.trans (ba1.mono B5.size)))
        | ((with_reducible refine (cU _).mono ?_); rintro e z5 ⟨rfl, hw5⟩; have hb5 := belDG5 hw5; have B5 : Below w4.heap.size w4 z5 := bel1 hb5; have hz := (hb5.block w4.heap.size (by simp)).trans alloc_atG)
        | ((with_reducible refine (cM _).mono ?_); rintro e z6 ⟨rfl, hw6⟩; have B6 : Below w4.heap.size w4 z6 := B5.trans (hw6.mono B5.size); have nB : w4.heap.size ≤ w4.heap.size := Nat.le_refl _; have hz6 := (hw6.block w4.heap.size (Array.getElem?_eq_some_iff.1 hz).1).trans hz; obtain ⟨⟨d0, d1, d2, d3, d4⟩, df, dl⟩ := one_boxI (lbox_new hz6))
        | ((with_reducible refine (cM _).mono ?_); rintro e z6 ⟨rfl, hw6⟩; have B6 : Below w4.heap.size w4 z6 := B5.trans (hw6.mono B5.size); have B6a : ∀ o, Below w4.heap.size w4 (z6.alloc o) := (fun o => B6.trans (ba1.mono B6.size)); have nB : w4.heap.size ≤ z6.heap.size := B6.size)
        | ((with_reducible refine (cM _).mono ?_); rintro e z6 ⟨rfl, hw6⟩; have B6 : Below w4.heap.size w4 z6 := B5.trans ((bel1 hw6).mono B5.size); have nB : w4.heap.size ≤ z5.heap.size := B5.size; have hz6 := (hw6.block z5.heap.size (by simp)).trans alloc_atG; obtain ⟨⟨d0, d1, d2, d3, d4⟩, df, dl⟩ := one_boxI (lbox_new hz6)))
    · have LB := Lib.hid (show LBox (z6.alloc (.cells #[.int .i64 v.a, .int .i64 v.b, .int .i64 v.c, .int .i64 v.d, .int .i64 v.n] 73)) z6.heap.size [v] from ⟨fun i z hz => by
        match i, hz with
        | 0, hz => simp at hz; subst hz; exact ⟨by simp [go_sem], by simp [go_sem], by simp [go_sem], by simp [go_sem], by simp [go_sem]⟩
        | n + 1, hz => simp at hz, fun j => by simp [go_sem], by simp⟩)
      have NX := B6a (.cells #[.int .i64 v.a, .int .i64 v.b, .int .i64 v.c, .int .i64 v.d, .int .i64 v.n] 73)
      have hz1 := Z4.out.lt
      have hz2 := B6.size
      go_wp2
      go_meet
      exact ⟨_, rfl, LB, Lib.hid (F4.out.later NX), Lib.hid (Z4.out.later NX), Lib.hid (A4.out.later NX), Lib.hid (H4.out.later NX), Lib.hid (HB4.out.trans (NX.mono HB4.out.size)), by omega⟩
    · have e5 : z6.setCells z5.heap.size (0 * 5) (uc v) = ((((z6.setCell ⟨z5.heap.size, 0, none⟩ (.int .i64 v.a)).setCell ⟨z5.heap.size, 1, none⟩ (.int .i64 v.b)).setCell ⟨z5.heap.size, 2, none⟩ (.int .i64 v.c)).setCell ⟨z5.heap.size, 3, none⟩ (.int .i64 v.d)).setCell ⟨z5.heap.size, 4, none⟩ (.int .i64 v.n) := rfl
      have GG := grown_setCells z5.heap.size (uc v) (0 * 5) z6
      have ne : ∀ i : Nat, i < w4.heap.size → some i ≠ some z5.heap.size := fun i hi e => by have : i = z5.heap.size := Option.some.inj e; have : w4.heap.size ≤ z5.heap.size := nB; omega
      have BV := Lib.hid ((lbox_new hz6).put 0 (by simp) v)
      have FV := Lib.hid ((F4.out.later B6).grown GG (ne _ F4.out.lt))
      have ZV := Lib.hid ((Z4.out.later B6).grown GG (ne _ Z4.out.lt))
      have AV := Lib.hid ((A4.out.later B6).grown GG (ne _ A4.out.lt))
      have HV := Lib.hid (lies_grown5 (H4.out.later B6) GG (ne _ (World.block_lt_of_cell? _ _ (H4.out n _ HLK.out).1)))
      have NX : Below w4.heap.size w4 (z6.setCells z5.heap.size (0 * 5) (uc v)) := B6.grown GG B6.size (fun q e => by cases e; exact nB)
      have BW := Lib.hid (HB4.out.trans (NX.mono HB4.out.size))
      have hz1 := Z4.out.lt
      have hz2 : w4.heap.size ≤ z5.heap.size := nB
      rw [e5] at BV FV ZV AV HV BW
      go_wp2
      go_meet
      exact ⟨_, rfl, BV, FV, ZV, AV, HV, BW, by omega⟩
    · have e5 : z6.setCells w4.heap.size (0 * 5) (uc v) = ((((z6.setCell ⟨w4.heap.size, 0, none⟩ (.int .i64 v.a)).setCell ⟨w4.heap.size, 1, none⟩ (.int .i64 v.b)).setCell ⟨w4.heap.size, 2, none⟩ (.int .i64 v.c)).setCell ⟨w4.heap.size, 3, none⟩ (.int .i64 v.d)).setCell ⟨w4.heap.size, 4, none⟩ (.int .i64 v.n) := rfl
      have GG := grown_setCells w4.heap.size (uc v) (0 * 5) z6
      have ne : ∀ i : Nat, i < w4.heap.size → some i ≠ some w4.heap.size := fun i hi e => by have : i = w4.heap.size := Option.some.inj e; have : w4.heap.size ≤ w4.heap.size := nB; omega
      have BV := Lib.hid ((lbox_new hz6).put 0 (by simp) v)
      have FV := Lib.hid ((F4.out.later B6).grown GG (ne _ F4.out.lt))
      have ZV := Lib.hid ((Z4.out.later B6).grown GG (ne _ Z4.out.lt))
      have AV := Lib.hid ((A4.out.later B6).grown GG (ne _ A4.out.lt))
      have HV := Lib.hid (lies_grown5 (H4.out.later B6) GG (ne _ (World.block_lt_of_cell? _ _ (H4.out n _ HLK.out).1)))
      have NX : Below w4.heap.size w4 (z6.setCells w4.heap.size (0 * 5) (uc v)) := B6.grown GG B6.size (fun q e => by cases e; exact nB)
      have BW := Lib.hid (HB4.out.trans (NX.mono HB4.out.size))
      have hz1 := Z4.out.lt
      have hz2 : w4.heap.size ≤ w4.heap.size := nB
      rw [e5] at BV FV ZV AV HV BW
      go_wp2
      go_meet
      exact ⟨_, rfl, BV, FV, ZV, AV, HV, BW, by omega⟩
  case rest =>
  rename World => w5
  obtain ⟨bb, rfl, B5, F5, Z5, A5, H5, HB5, hbb⟩ := hcut
  clear cM cU
  clear F4 Z4 A4 H4 HB4
  obtain ⟨⟨d0, d1, d2, d3, d4⟩, df, dl⟩ := one_boxI B5.out
  go_wp2_with (fail)
  refine (cO _).mono ?_
  rintro e w6 ⟨rfl, hw6⟩
  clear d0 d1 d2 d3 d4 df dl
  have bw6 : Below w5.heap.size w5 w6 := hw6
  have H6 := Lib.hid (H5.out.later bw6)
  have F6 := Lib.hid (F5.out.later bw6)
  have Z6 := Lib.hid (Z5.out.later bw6)
  have A6 := Lib.hid (A5.out.later bw6)
  have B6 := Lib.hid (B5.out.later bw6)
  have HB6 := Lib.hid (HB5.out.trans (bw6.mono HB5.out.size))
  clear hw6 bw6 H5 F5 Z5 A5 B5 HB5
  have am := r24_cell A6.out.h HAF.out
  obtain ⟨f6_0, f6_1, f6_2, f6_3, f6_4, f6_5⟩ := F6.out
  obtain ⟨⟨d0, d1, d2, d3, d4⟩, df, dl⟩ := one_boxI B6.out
  go_wp2_with (fail)
  refine (cW _ (H6.out)).mono ?_
  rintro e w7 ⟨g, gk, rfl, hG, hge, hw7⟩
  have hgz := Z6.out.lt
  have hgg : w.heap.size + 1 + 1 < g := Nat.lt_of_lt_of_le hgz hge
  clear hgz hge
  clear am f6_0 f6_1 f6_2 f6_3 f6_4 f6_5 d0 d1 d2 d3 d4 df dl
  have bw7 : Below w6.heap.size w6 w7 := hw7
  have H7 := Lib.hid (H6.out.later bw7)
  have F7 := Lib.hid (F6.out.later bw7)
  have Z7 := Lib.hid (Z6.out.later bw7)
  have A7 := Lib.hid (A6.out.later bw7)
  have B7 := Lib.hid (B6.out.later bw7)
  have HB7 := Lib.hid (HB6.out.trans (bw7.mono HB6.out.size))
  have G7 := Lib.hid hG
  clear hG
  clear hw7 bw7 H6 F6 Z6 A6 B6 HB6
  obtain ⟨z7_0, z7_1, z7_2, z7_3, z7_4, z7_5⟩ := Z7.out
  go_wp2
  have hb := HB7.out
  have GZ := grown_setCells (w.heap.size + 1 + 1) [.int .i64 a, .int .i64 b, .int .i64 c, .slice (some ⟨g, 0, none⟩) L.length gk] 0 w7
  refine bodyPost_ret (v := .tuple #[.agg #[.int .i64 a, .int .i64 b, .int .i64 c, .slice (some ⟨g, 0, none⟩) L.length gk], .bool false, .int .i64 0]) ?_ rfl ⟨⟨g, gk, rfl, G7.out.grown GZ (by simp; omega), by omega⟩, hb.grown GZ hb.size (fun j hj => by cases hj; omega)⟩
  simp [results, Tryz.results26, go_sem, z7_0, z7_1, z7_2, z7_3, z7_5]
set_option maxHeartbeats 12800000 in
theorem refMet_yes (a b c p0 p1 p2 p3 p4 l x d be af : Int) (bl off cap n j t m : Nat) (L : List Q) (w : World)
    (hm : Lies w bl off L) (A : Array Value) (hA : R24 A) (hx : 0 ≤ x ∧ x < 24) (hl : l = n) (hn : n < L.length) (hj : j < 24) (hlk : L[n]? = some (small j)) (hbe : A[j]? = some (.int .i64 be)) (hbw : Wg be) (hd : 0 ≤ d ∧ d < be) (hxt : x = t) (hmm : m < 24) (hmul : low (mul (small t) (small j)) = small m) (haf : A[m]? = some (.int .i64 af)) (hlen : L.length ≤ 100) (ha : d < af)
    (c1 : ∀ (W : World) (_ : Lies W bl off L), Calls Tryz.prog 43 #[.agg #[.int .i64 a, .int .i64 b, .int .i64 c, .slice (some ⟨bl, off, none⟩) L.length cap], .agg #[.int .i64 p0, .int .i64 p1, .int .i64 p2, .int .i64 p3, .int .i64 p4], .int .i64 l] W fun e w' => e = .returned (.int .i64 0) ∧ Below W.heap.size W w')
    (c2 : ∀ (W : World) (_ : Lies W bl off L), Calls Tryz.prog 44 #[.agg #[.int .i64 a, .int .i64 b, .int .i64 c, .slice (some ⟨bl, off, none⟩) L.length cap], .agg #[.int .i64 p0, .int .i64 p1, .int .i64 p2, .int .i64 p3, .int .i64 p4], .int .i64 l] W fun e w' => e = .returned (.agg A) ∧ Below W.heap.size W w') : Calls Tryz.prog 26 #[.agg #[.int .i64 a, .int .i64 b, .int .i64 c, .slice (some ⟨bl, off, none⟩) L.length cap], .agg #[.int .i64 p0, .int .i64 p1, .int .i64 p2, .int .i64 p3, .int .i64 p4], .int .i64 l, .int .i64 x, .int .i64 d] w fun e w' => (∃ g gk : Nat, e = .returned (.tuple #[.agg #[.int .i64 a, .int .i64 b, .int .i64 c, .slice (some ⟨g, 0, none⟩) L.length gk], .bool true, .int .i64 0]) ∧ LBox w' g (L.set n (small (m : Int))) ∧ w.heap.size ≤ g) ∧ Below w.heap.size w w' := by
  have k1 := fun W => within5v_any x 0 23 W true (.inl ⟨by omega, by omega, rfl⟩)
  have cN := fun (W : World) => number5_any j hj W
  have HLK := Lib.hid hlk
  have HBE := Lib.hid hbe
  obtain ⟨be0, be1⟩ := hbw
  have k2 := fun W => within5v_any d 0 (be - 1) W true (.inl ⟨by omega, by omega, rfl⟩)
  have cU := fun (W : World) => unit5_any t W (by omega) (by omega)
  have hs1 : Sm (small (j : Int)) := ⟨j, hj, rfl⟩
  have hs3 : Sm (small (t : Int)) := ⟨t, by omega, rfl⟩
  have cM := fun (W : World) => mulS_any (small (t : Int)) (small (j : Int)) W hs3 hs1
  rw [hmul] at cM
  have cO := fun (W : World) => number5_any m hmm W
  have HAF := Lib.hid haf
  have cW := fun (W : World) (h : Lies W bl off L) => refWith_any a b c n (small (m : Int)) bl off cap L W h (by omega) hlen (by omega) (by omega)
  simp only [Int.toNat_natCast] at cW
  have H0 := Lib.hid hm
  have SZ := Lib.hid hA.sz
  have OL := Lib.hid hA.ol
  have ON := Lib.hid hA.one
  clear hm hA
  clear hx hd hs1 hs3 hmul haf
  subst hxt
  clear hlk hbe
  subst hl
  have i1 : (n : Int) < (L.length : Int) := by omega
  have i3 : (j : Int) < 24 := by omega
  generalize small (j : Int) = u at *
  have i4 : (m : Int) < 24 := by omega
  generalize small (t : Int) = y at *
  generalize small (m : Int) = v at *
  go_enter Tryz.func26, Tryz.ntmps26
  go_wp2_with (fail)
  refine (c1 _ (H0.out.later ba3)).mono ?_
  rintro e w1 ⟨rfl, hw1⟩
  have bw1 : Below w.heap.size w w1 := bel3 hw1
  have F1 := Lib.hid (FW.n3a.later hw1)
  have E1 := Lib.hid (C5.n3b.later hw1)
  have Z1 := Lib.hid (FW.n3c.later hw1)
  have H1 := Lib.hid (H0.out.later bw1)
  have HB1 := Lib.hid bw1
  clear hw1 bw1 H0
  obtain ⟨f1_0, f1_1, f1_2, f1_3, f1_4, f1_5⟩ := F1.out
  obtain ⟨e1_0, e1_1, e1_2, e1_3, e1_4, e1_5, e1_6⟩ := E1.out
  go_wp2_with (fail)
  refine (c2 _ (H1.out)).mono ?_
  rintro e w2 ⟨rfl, hw2⟩
  clear f1_0 f1_1 f1_2 f1_3 f1_4 f1_5 e1_0 e1_1 e1_2 e1_3 e1_4 e1_5 e1_6
  have bw2 : Below w1.heap.size w1 w2 := hw2
  have H2 := Lib.hid (H1.out.later bw2)
  have F2 := Lib.hid (F1.out.later bw2)
  have E2 := Lib.hid (E1.out.later bw2)
  have Z2 := Lib.hid (Z1.out.later bw2)
  have HB2 := Lib.hid (HB1.out.trans (bw2.mono HB1.out.size))
  clear hw2 bw2 H1 F1 E1 Z1 HB1
  clear E2
  have TZ := Lib.hid (ABx.news (w := w2) (T := 29) #[.int .i64 0, .int .i64 0, .int .i64 0, .int .i64 0, .int .i64 0, .int .i64 0, .int .i64 0, .int .i64 0, .int .i64 0, .int .i64 0, .int .i64 0, .int .i64 0, .int .i64 0, .int .i64 0, .int .i64 0, .int .i64 0, .int .i64 0, .int .i64 0, .int .i64 0, .int .i64 0, .int .i64 0, .int .i64 0, .int .i64 0, .int .i64 0])
  have nx := r24_below w2 A
  have H3 := Lib.hid (H2.out.later nx)
  have F3 := Lib.hid (F2.out.later nx)
  have Z3 := Lib.hid (Z2.out.later nx)
  have HB3 := Lib.hid (HB2.out.trans (nx.mono HB2.out.size))
  have A3 : Hid (RowT _ _ _ _) := Lib.hid ⟨r24_new w2 A⟩
  clear nx HB2 H2 F2 Z2
  go_wp2_with (first | (refine wpList_store_row rfl 29 (.tmp 14) (.tmp 27) rfl w2.heap.size A rfl rfl 29 _ TZ.out.h SZ.out OL.out ON.out ?_))
  generalize (w2.alloc (.cells #[.int .i64 0, .int .i64 0, .int .i64 0, .int .i64 0, .int .i64 0, .int .i64 0, .int .i64 0, .int .i64 0, .int .i64 0, .int .i64 0, .int .i64 0, .int .i64 0, .int .i64 0, .int .i64 0, .int .i64 0, .int .i64 0, .int .i64 0, .int .i64 0, .int .i64 0, .int .i64 0, .int .i64 0, .int .i64 0, .int .i64 0, .int .i64 0] 29)).setRow w2.heap.size A = w3 at *
  refine (k1 _).mono ?_
  rintro e wx ⟨rfl, rfl⟩
  clear TZ
  obtain ⟨f3_0, f3_1, f3_2, f3_3, f3_4, f3_5⟩ := F3.out
  obtain ⟨g0, g1, g2, g3, g4⟩ := H3.out.atP HLK.out
  go_wp2_with (fail)
  refine (cN _).mono ?_
  rintro e w4 ⟨rfl, hw4⟩
  clear f3_0 f3_1 f3_2 f3_3 f3_4 f3_5 g0 g1 g2 g3 g4
  have bw4 : Below w3.heap.size w3 w4 := hw4
  have H4 := Lib.hid (H3.out.later bw4)
  have F4 := Lib.hid (F3.out.later bw4)
  have Z4 := Lib.hid (Z3.out.later bw4)
  have A4 := Lib.hid (A3.out.later bw4)
  have HB4 := Lib.hid (HB3.out.trans (bw4.mono HB3.out.size))
  clear hw4 bw4 H3 F3 Z3 A3 HB3
  have aj := r24_cell A4.out.h HBE.out
  go_wp2_with (fail)
  refine (k2 _).mono ?_
  rintro e wx ⟨rfl, rfl⟩
  clear aj
  go_upto_region 7 with (fail)
  go_cut [15] from 15 to 53 (fun s15 wx => ∃ bb : Nat, s15 = .pointer (some ⟨bb, 0, none⟩) ∧ Hid (LBox wx bb [v]) ∧ Hid (FW wx w.heap.size a b c (.slice (some ⟨bl, off, none⟩) L.length cap)) ∧ Hid (FW wx (w.heap.size + 1 + 1) 0 0 0 (.slice none 0 0)) ∧ Hid (RowT wx w2.heap.size 29 A) ∧ Hid (Lies wx bl off L) ∧ Hid (Below w.heap.size w wx) ∧ w.heap.size + 1 + 1 < bb)
  case first =>
    obtain ⟨f0, f1, f2, s0, ff, fl⟩ := F4.out
    obtain ⟨g0, g1, g2, g3, g4⟩ := H4.out.atP HLK.out
    have K5 : Hid (∀ w' : World, Below w4.heap.size w4 w' → (w'.cell? ⟨w.heap.size, 3, none⟩ = some (.slice (some ⟨bl, off, none⟩) L.length cap) ∧ w'.cell? ⟨bl, off + n * 5, none⟩ = some (.int .i64 u.a) ∧ w'.cell? ⟨bl, off + n * 5 + 1, none⟩ = some (.int .i64 u.b) ∧ w'.cell? ⟨bl, off + n * 5 + 2, none⟩ = some (.int .i64 u.c) ∧ w'.cell? ⟨bl, off + n * 5 + 3, none⟩ = some (.int .i64 u.d) ∧ w'.cell? ⟨bl, off + n * 5 + 4, none⟩ = some (.int .i64 u.n))) := Lib.hid (fun w' h => ⟨held_belowG h s0, held_belowG h g0, held_belowG h g1, held_belowG h g2, held_belowG h g3, held_belowG h g4⟩)
    have K6 : Hid (∀ (w' : World) (p : Nat) (v0 v1 v2 v3 v4 : Value), Below w4.heap.size w4 w' → w4.heap.size ≤ p → ((((((w'.setCell ⟨p, 0, none⟩ v0).setCell ⟨p, 1, none⟩ v1).setCell ⟨p, 2, none⟩ v2).setCell ⟨p, 3, none⟩ v3).setCell ⟨p, 4, none⟩ v4).cell? ⟨w.heap.size, 3, none⟩ = some (.slice (some ⟨bl, off, none⟩) L.length cap) ∧ (((((w'.setCell ⟨p, 0, none⟩ v0).setCell ⟨p, 1, none⟩ v1).setCell ⟨p, 2, none⟩ v2).setCell ⟨p, 3, none⟩ v3).setCell ⟨p, 4, none⟩ v4).cell? ⟨bl, off + n * 5, none⟩ = some (.int .i64 u.a) ∧ (((((w'.setCell ⟨p, 0, none⟩ v0).setCell ⟨p, 1, none⟩ v1).setCell ⟨p, 2, none⟩ v2).setCell ⟨p, 3, none⟩ v3).setCell ⟨p, 4, none⟩ v4).cell? ⟨bl, off + n * 5 + 1, none⟩ = some (.int .i64 u.b) ∧ (((((w'.setCell ⟨p, 0, none⟩ v0).setCell ⟨p, 1, none⟩ v1).setCell ⟨p, 2, none⟩ v2).setCell ⟨p, 3, none⟩ v3).setCell ⟨p, 4, none⟩ v4).cell? ⟨bl, off + n * 5 + 2, none⟩ = some (.int .i64 u.c) ∧ (((((w'.setCell ⟨p, 0, none⟩ v0).setCell ⟨p, 1, none⟩ v1).setCell ⟨p, 2, none⟩ v2).setCell ⟨p, 3, none⟩ v3).setCell ⟨p, 4, none⟩ v4).cell? ⟨bl, off + n * 5 + 3, none⟩ = some (.int .i64 u.d) ∧ (((((w'.setCell ⟨p, 0, none⟩ v0).setCell ⟨p, 1, none⟩ v1).setCell ⟨p, 2, none⟩ v2).setCell ⟨p, 3, none⟩ v3).setCell ⟨p, 4, none⟩ v4).cell? ⟨bl, off + n * 5 + 4, none⟩ = some (.int .i64 u.n))) := Lib.hid (fun w' p v0 v1 v2 v3 v4 h hp => by
      have g := grown_setCells p [v0, v1, v2, v3, v4] 0 w'
      have ne : ∀ (q i : Nat) (v : Value), w4.cell? ⟨q, i, none⟩ = some v → some q ≠ some p := fun q i v hq e => by have h1 := World.block_lt_of_cell? _ _ hq; have : q = p := Option.some.inj e; have : q < w4.heap.size := h1; omega
      exact ⟨g.cell (held_belowG h s0) (ne _ _ _ s0), g.cell (held_belowG h g0) (ne _ _ _ g0), g.cell (held_belowG h g1) (ne _ _ _ g1), g.cell (held_belowG h g2) (ne _ _ _ g2), g.cell (held_belowG h g3) (ne _ _ _ g3), g.cell (held_belowG h g4) (ne _ _ _ g4)⟩)
    clear f0 f1 f2 ff fl
    go_wp2_with (fail)
    try simp only [Act.put]
    go_region_held3 (fun w' => w'.cell? ⟨w.heap.size, 3, none⟩ = some (.slice (some ⟨bl, off, none⟩) L.length cap) ∧ w'.cell? ⟨bl, off + n * 5, none⟩ = some (.int .i64 u.a) ∧ w'.cell? ⟨bl, off + n * 5 + 1, none⟩ = some (.int .i64 u.b) ∧ w'.cell? ⟨bl, off + n * 5 + 2, none⟩ = some (.int .i64 u.c) ∧ w'.cell? ⟨bl, off + n * 5 + 3, none⟩ = some (.int .i64 u.d) ∧ w'.cell? ⟨bl, off + n * 5 + 4, none⟩ = some (.int .i64 u.n))
      (first | (with_reducible exact K6.out _ _ _ _ _ _ _ B6 nB) | (with_reducible exact K6.out _ _ _ _ _ _ _ (B6a _) nB) | (with_reducible exact K5.out _ (B6a _)) | (with_reducible exact K5.out _ B6) | (with_reducible exact K5.out _ (B5a _)) | (with_reducible exact K5.out _ B5) | (with_reducible exact K5.out _ ba1) | (with_reducible exact K5.out _ (Below.refl _ _)) | go_keep)
      (first
        | ((with_reducible refine (cU _).mono ?_); rintro e z5 ⟨rfl, hw5⟩; have hb5 := belDG5 hw5; have B5 : Below w4.heap.size w4 z5 := hb5; have B5a : ∀ o, Below w4.heap.size w4 (z5.alloc o) := (fun o => B5.trans (ba1.mono B5.size)))
        | ((with_reducible refine (cU _).mono ?_); rintro e z5 ⟨rfl, hw5⟩; have hb5 := belDG5 hw5; have B5 : Below w4.heap.size w4 z5 := bel1 hb5; have hz := (hb5.block w4.heap.size (by simp)).trans alloc_atG)
        | ((with_reducible refine (cM _).mono ?_); rintro e z6 ⟨rfl, hw6⟩; have B6 : Below w4.heap.size w4 z6 := B5.trans (hw6.mono B5.size); have nB : w4.heap.size ≤ w4.heap.size := Nat.le_refl _; have hz6 := (hw6.block w4.heap.size (Array.getElem?_eq_some_iff.1 hz).1).trans hz; obtain ⟨⟨d0, d1, d2, d3, d4⟩, df, dl⟩ := one_boxI (lbox_new hz6))
        | ((with_reducible refine (cM _).mono ?_); rintro e z6 ⟨rfl, hw6⟩; have B6 : Below w4.heap.size w4 z6 := B5.trans (hw6.mono B5.size); have B6a : ∀ o, Below w4.heap.size w4 (z6.alloc o) := (fun o => B6.trans (ba1.mono B6.size)); have nB : w4.heap.size ≤ z6.heap.size := B6.size)
        | ((with_reducible refine (cM _).mono ?_); rintro e z6 ⟨rfl, hw6⟩; have B6 : Below w4.heap.size w4 z6 := B5.trans ((bel1 hw6).mono B5.size); have nB : w4.heap.size ≤ z5.heap.size := B5.size; have hz6 := (hw6.block z5.heap.size (by simp)).trans alloc_atG; obtain ⟨⟨d0, d1, d2, d3, d4⟩, df, dl⟩ := one_boxI (lbox_new hz6)))
    · have LB := Lib.hid (show LBox (z6.alloc (.cells #[.int .i64 v.a, .int .i64 v.b, .int .i64 v.c, .int .i64 v.d, .int .i64 v.n] 73)) z6.heap.size [v] from ⟨fun i z hz => by
        match i, hz with
        | 0, hz => simp at hz; subst hz; exact ⟨by simp [go_sem], by simp [go_sem], by simp [go_sem], by simp [go_sem], by simp [go_sem]⟩
        | n + 1, hz => simp at hz, fun j => by simp [go_sem], by simp⟩)
      have NX := B6a (.cells #[.int .i64 v.a, .int .i64 v.b, .int .i64 v.c, .int .i64 v.d, .int .i64 v.n] 73)
      have hz1 := Z4.out.lt
      have hz2 := B6.size
      go_wp2
      go_meet
      exact ⟨_, rfl, LB, Lib.hid (F4.out.later NX), Lib.hid (Z4.out.later NX), Lib.hid (A4.out.later NX), Lib.hid (H4.out.later NX), Lib.hid (HB4.out.trans (NX.mono HB4.out.size)), by omega⟩
    · have e5 : z6.setCells z5.heap.size (0 * 5) (uc v) = ((((z6.setCell ⟨z5.heap.size, 0, none⟩ (.int .i64 v.a)).setCell ⟨z5.heap.size, 1, none⟩ (.int .i64 v.b)).setCell ⟨z5.heap.size, 2, none⟩ (.int .i64 v.c)).setCell ⟨z5.heap.size, 3, none⟩ (.int .i64 v.d)).setCell ⟨z5.heap.size, 4, none⟩ (.int .i64 v.n) := rfl
      have GG := grown_setCells z5.heap.size (uc v) (0 * 5) z6
      have ne : ∀ i : Nat, i < w4.heap.size → some i ≠ some z5.heap.size := fun i hi e => by have : i = z5.heap.size := Option.some.inj e; have : w4.heap.size ≤ z5.heap.size := nB; omega
      have BV := Lib.hid ((lbox_new hz6).put 0 (by simp) v)
      have FV := Lib.hid ((F4.out.later B6).grown GG (ne _ F4.out.lt))
      have ZV := Lib.hid ((Z4.out.later B6).grown GG (ne _ Z4.out.lt))
      have AV := Lib.hid ((A4.out.later B6).grown GG (ne _ A4.out.lt))
      have HV := Lib.hid (lies_grown5 (H4.out.later B6) GG (ne _ (World.block_lt_of_cell? _ _ (H4.out n _ HLK.out).1)))
      have NX : Below w4.heap.size w4 (z6.setCells z5.heap.size (0 * 5) (uc v)) := B6.grown GG B6.size (fun q e => by cases e; exact nB)
      have BW := Lib.hid (HB4.out.trans (NX.mono HB4.out.size))
      have hz1 := Z4.out.lt
      have hz2 : w4.heap.size ≤ z5.heap.size := nB
      rw [e5] at BV FV ZV AV HV BW
      go_wp2
      go_meet
      exact ⟨_, rfl, BV, FV, ZV, AV, HV, BW, by omega⟩
    · have e5 : z6.setCells w4.heap.size (0 * 5) (uc v) = ((((z6.setCell ⟨w4.heap.size, 0, none⟩ (.int .i64 v.a)).setCell ⟨w4.heap.size, 1, none⟩ (.int .i64 v.b)).setCell ⟨w4.heap.size, 2, none⟩ (.int .i64 v.c)).setCell ⟨w4.heap.size, 3, none⟩ (.int .i64 v.d)).setCell ⟨w4.heap.size, 4, none⟩ (.int .i64 v.n) := rfl
      have GG := grown_setCells w4.heap.size (uc v) (0 * 5) z6
      have ne : ∀ i : Nat, i < w4.heap.size → some i ≠ some w4.heap.size := fun i hi e => by have : i = w4.heap.size := Option.some.inj e; have : w4.heap.size ≤ w4.heap.size := nB; omega
      have BV := Lib.hid ((lbox_new hz6).put 0 (by simp) v)
      have FV := Lib.hid ((F4.out.later B6).grown GG (ne _ F4.out.lt))
      have ZV := Lib.hid ((Z4.out.later B6).grown GG (ne _ Z4.out.lt))
      have AV := Lib.hid ((A4.out.later B6).grown GG (ne _ A4.out.lt))
      have HV := Lib.hid (lies_grown5 (H4.out.later B6) GG (ne _ (World.block_lt_of_cell? _ _ (H4.out n _ HLK.out).1)))
      have NX : Below w4.heap.size w4 (z6.setCells w4.heap.size (0 * 5) (uc v)) := B6.grown GG B6.size (fun q e => by cases e; exact nB)
      have BW := Lib.hid (HB4.out.trans (NX.mono HB4.out.size))
      have hz1 := Z4.out.lt
      have hz2 : w4.heap.size ≤ w4.heap.size := nB
      rw [e5] at BV FV ZV AV HV BW
      go_wp2
      go_meet
      exact ⟨_, rfl, BV, FV, ZV, AV, HV, BW, by omega⟩
  case rest =>
  rename World => w5
  obtain ⟨bb, rfl, B5, F5, Z5, A5, H5, HB5, hbb⟩ := hcut
  clear cM cU
  clear F4 Z4 A4 H4 HB4
  obtain ⟨⟨d0, d1, d2, d3, d4⟩, df, dl⟩ := one_boxI B5.out
  go_wp2_with (fail)
  refine (cO _).mono ?_
  rintro e w6 ⟨rfl, hw6⟩
  clear d0 d1 d2 d3 d4 df dl
  have bw6 : Below w5.heap.size w5 w6 := hw6
  have H6 := Lib.hid (H5.out.later bw6)
  have F6 := Lib.hid (F5.out.later bw6)
  have Z6 := Lib.hid (Z5.out.later bw6)
  have A6 := Lib.hid (A5.out.later bw6)
  have B6 := Lib.hid (B5.out.later bw6)
  have HB6 := Lib.hid (HB5.out.trans (bw6.mono HB5.out.size))
  clear hw6 bw6 H5 F5 Z5 A5 B5 HB5
  have am := r24_cell A6.out.h HAF.out
  obtain ⟨f6_0, f6_1, f6_2, f6_3, f6_4, f6_5⟩ := F6.out
  obtain ⟨⟨d0, d1, d2, d3, d4⟩, df, dl⟩ := one_boxI B6.out
  go_wp2_with (fail)
  refine (cW _ (H6.out)).mono ?_
  rintro e w7 ⟨⟨g, gk, rfl, hG, hge⟩, hw7⟩
  have hgz := Z6.out.lt
  have hgg : w.heap.size + 1 + 1 < g := Nat.lt_of_lt_of_le hgz hge
  clear hgz hge
  clear am f6_0 f6_1 f6_2 f6_3 f6_4 f6_5 d0 d1 d2 d3 d4 df dl
  have bw7 : Below w6.heap.size w6 w7 := hw7
  have H7 := Lib.hid (H6.out.later bw7)
  have F7 := Lib.hid (F6.out.later bw7)
  have Z7 := Lib.hid (Z6.out.later bw7)
  have A7 := Lib.hid (A6.out.later bw7)
  have B7 := Lib.hid (B6.out.later bw7)
  have HB7 := Lib.hid (HB6.out.trans (bw7.mono HB6.out.size))
  have G7 := Lib.hid hG
  clear hG
  clear hw7 bw7 H6 F6 Z6 A6 B6 HB6
  obtain ⟨z7_0, z7_1, z7_2, z7_3, z7_4, z7_5⟩ := Z7.out
  go_wp2
  have hb := HB7.out
  have GZ := grown_setCells (w.heap.size + 1 + 1) [.int .i64 a, .int .i64 b, .int .i64 c, .slice (some ⟨g, 0, none⟩) L.length gk] 0 w7
  refine bodyPost_ret (v := .tuple #[.agg #[.int .i64 a, .int .i64 b, .int .i64 c, .slice (some ⟨g, 0, none⟩) L.length gk], .bool true, .int .i64 0]) ?_ rfl ⟨⟨g, gk, rfl, G7.out.grown GZ (by simp; omega), by omega⟩, hb.grown GZ hb.size (fun j hj => by cases hj; omega)⟩
  simp [results, Tryz.results26, go_sem, z7_0, z7_1, z7_2, z7_3, z7_5]
end Go.Proofs.YtpfhjdmgkckjfaaGreatDoor
