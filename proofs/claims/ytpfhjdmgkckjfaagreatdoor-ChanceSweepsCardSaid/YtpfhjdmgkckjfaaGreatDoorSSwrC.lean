/- Sweeps of the document's answers: their errors, and the whole; whether two lists of moves are the same.
Conditions: those written at each theorem. -/
import Derived.Test.YtpfhjdmgkckjfaaGreatDoorSRswC
import Derived.Test.YtpfhjdmgkckjfaaGreatDoorSSwpC
import Derived.ChangeKeysEq
namespace Go.Proofs.YtpfhjdmgkckjfaaGreatDoor
set_option linter.unusedVariables false
set_option linter.unusedSimpArgs false
set_option maxRecDepth 1000000
open Go.RowKit
open Um Tm Cm

set_option maxHeartbeats 1600000 in
theorem prep_a (a b c p0 p1 p2 p3 p4 s r : Int) (ao : Option Addr) (cap : Nat) (L : List Q) (w : World) (h : LiesO w ao L) (hl : ltR a b c L r) (h0 : r ≠ 0) (hlen : L.length ≤ 1000000) : Calls Tryz.prog 65 #[.agg #[.int .i64 a, .int .i64 b, .int .i64 c, .slice ao L.length cap], .agg #[.int .i64 p0, .int .i64 p1, .int .i64 p2, .int .i64 p3, .int .i64 p4], .int .i64 s] w fun e w' => e = .returned (.int .i64 r) ∧ Below w.heap.size w w' := by
  have c1 := fun (W : World) h => little_lt a b c r ao cap L W h hl hlen
  have h0' : (r != 0) = true := by simpa using h0
  have h0'' : (r == 0) = false := by simpa using h0
  have H0 := Lib.hid h
  clear h hl h0
  go_enter Tryz.func65, Tryz.ntmps65
  go_wp2_with (fail)
  refine (c1 _ (H0.out.later ba2)).mono ?_
  rintro e w1 ⟨rfl, hw1⟩
  have bw1 : Below w.heap.size w w1 := bel2 hw1
  have F1 := Lib.hid (FW.n2a.later hw1)
  have E1 := Lib.hid (C5.n2b.later hw1)
  have H1 := Lib.hid (H0.out.later bw1)
  have HB1 := Lib.hid bw1
  clear hw1 bw1 H0
  go_wp2
  go_ret
  exact ⟨rfl, HB1.out⟩
set_option maxHeartbeats 1600000 in
theorem prep_b (a b c p0 p1 p2 p3 p4 s : Int) (ao : Option Addr) (cap : Nat) (L : List Q) (w : World) (h : LiesO w ao L) (hl : ltR a b c L 0) (hv : vwR [p0, p1, p2, p3, p4] 1) (hlen : L.length ≤ 1000000) : Calls Tryz.prog 65 #[.agg #[.int .i64 a, .int .i64 b, .int .i64 c, .slice ao L.length cap], .agg #[.int .i64 p0, .int .i64 p1, .int .i64 p2, .int .i64 p3, .int .i64 p4], .int .i64 s] w fun e w' => e = .returned (.int .i64 1) ∧ Below w.heap.size w w' := by
  have c1 := fun (W : World) h => little_lt a b c 0 ao cap L W h hl hlen
  have c2 := fun W : World => refVw_any p0 p1 p2 p3 p4 1 W hv
  have H0 := Lib.hid h
  clear h hl hv
  go_enter Tryz.func65, Tryz.ntmps65
  go_wp2_with (fail)
  refine (c1 _ (H0.out.later ba2)).mono ?_
  rintro e w1 ⟨rfl, hw1⟩
  have bw1 : Below w.heap.size w w1 := bel2 hw1
  have F1 := Lib.hid (FW.n2a.later hw1)
  have E1 := Lib.hid (C5.n2b.later hw1)
  have H1 := Lib.hid (H0.out.later bw1)
  have HB1 := Lib.hid bw1
  clear hw1 bw1 H0
  obtain ⟨e1_0, e1_1, e1_2, e1_3, e1_4, e1_5, e1_6⟩ := E1.out
  go_wp2_with (fail)
  refine (c2 _).mono ?_
  rintro e w2 ⟨rfl, hw2⟩
  clear e1_0 e1_1 e1_2 e1_3 e1_4 e1_5 e1_6
  have bw2 : Below w1.heap.size w1 w2 := hw2
  have H2 := Lib.hid (H1.out.later bw2)
  have F2 := Lib.hid (F1.out.later bw2)
  have E2 := Lib.hid (E1.out.later bw2)
  have HB2 := Lib.hid (HB1.out.trans (bw2.mono HB1.out.size))
  clear hw2 bw2 H1 F1 E1 HB1
  go_wp2
  go_ret
  exact ⟨rfl, HB2.out⟩
set_option maxHeartbeats 1600000 in
theorem prep_c (a b c p0 p1 p2 p3 p4 s : Int) (ao : Option Addr) (cap : Nat) (L : List Q) (w : World) (h : LiesO w ao L) (hl : ltR a b c L 0) (hv : vwR [p0, p1, p2, p3, p4] 0) (hs : ¬ IsSeed s) (hlen : L.length ≤ 1000000) : Calls Tryz.prog 65 #[.agg #[.int .i64 a, .int .i64 b, .int .i64 c, .slice ao L.length cap], .agg #[.int .i64 p0, .int .i64 p1, .int .i64 p2, .int .i64 p3, .int .i64 p4], .int .i64 s] w fun e w' => e = .returned (.int .i64 1) ∧ Below w.heap.size w w' := by
  have c1 := fun (W : World) h => little_lt a b c 0 ao cap L W h hl hlen
  have c2 := fun W : World => refVw_any p0 p1 p2 p3 p4 0 W hv
  have c3 := fun W : World => isSeed_any s W false (.inr ⟨hs, rfl⟩)
  have H0 := Lib.hid h
  clear h hl hv hs
  go_enter Tryz.func65, Tryz.ntmps65
  go_wp2_with (fail)
  refine (c1 _ (H0.out.later ba2)).mono ?_
  rintro e w1 ⟨rfl, hw1⟩
  have bw1 : Below w.heap.size w w1 := bel2 hw1
  have F1 := Lib.hid (FW.n2a.later hw1)
  have E1 := Lib.hid (C5.n2b.later hw1)
  have H1 := Lib.hid (H0.out.later bw1)
  have HB1 := Lib.hid bw1
  clear hw1 bw1 H0
  obtain ⟨e1_0, e1_1, e1_2, e1_3, e1_4, e1_5, e1_6⟩ := E1.out
  go_wp2_with (fail)
  refine (c2 _).mono ?_
  rintro e w2 ⟨rfl, hw2⟩
  clear e1_0 e1_1 e1_2 e1_3 e1_4 e1_5 e1_6
  have bw2 : Below w1.heap.size w1 w2 := hw2
  have H2 := Lib.hid (H1.out.later bw2)
  have F2 := Lib.hid (F1.out.later bw2)
  have E2 := Lib.hid (E1.out.later bw2)
  have HB2 := Lib.hid (HB1.out.trans (bw2.mono HB1.out.size))
  clear hw2 bw2 H1 F1 E1 HB1
  go_wp2_with (fail)
  refine (c3 _).mono ?_
  rintro e wx ⟨rfl, rfl⟩
  go_wp2
  go_ret
  exact ⟨rfl, HB2.out⟩
set_option maxHeartbeats 1600000 in
theorem prep_d (a b c p0 p1 p2 p3 p4 s : Int) (ao : Option Addr) (cap : Nat) (L : List Q) (w : World) (h : LiesO w ao L) (hl : ltR a b c L 0) (hv : vwR [p0, p1, p2, p3, p4] 0) (hs : IsSeed s) (hlen : L.length ≤ 1000000) : Calls Tryz.prog 65 #[.agg #[.int .i64 a, .int .i64 b, .int .i64 c, .slice ao L.length cap], .agg #[.int .i64 p0, .int .i64 p1, .int .i64 p2, .int .i64 p3, .int .i64 p4], .int .i64 s] w fun e w' => e = .returned (.int .i64 0) ∧ Below w.heap.size w w' := by
  have c1 := fun (W : World) h => little_lt a b c 0 ao cap L W h hl hlen
  have c2 := fun W : World => refVw_any p0 p1 p2 p3 p4 0 W hv
  have c3 := fun W : World => isSeed_any s W true (.inl ⟨hs, rfl⟩)
  have H0 := Lib.hid h
  clear h hl hv hs
  go_enter Tryz.func65, Tryz.ntmps65
  go_wp2_with (fail)
  refine (c1 _ (H0.out.later ba2)).mono ?_
  rintro e w1 ⟨rfl, hw1⟩
  have bw1 : Below w.heap.size w w1 := bel2 hw1
  have F1 := Lib.hid (FW.n2a.later hw1)
  have E1 := Lib.hid (C5.n2b.later hw1)
  have H1 := Lib.hid (H0.out.later bw1)
  have HB1 := Lib.hid bw1
  clear hw1 bw1 H0
  obtain ⟨e1_0, e1_1, e1_2, e1_3, e1_4, e1_5, e1_6⟩ := E1.out
  go_wp2_with (fail)
  refine (c2 _).mono ?_
  rintro e w2 ⟨rfl, hw2⟩
  clear e1_0 e1_1 e1_2 e1_3 e1_4 e1_5 e1_6
  have bw2 : Below w1.heap.size w1 w2 := hw2
  have H2 := Lib.hid (H1.out.later bw2)
  have F2 := Lib.hid (F1.out.later bw2)
  have E2 := Lib.hid (E1.out.later bw2)
  have HB2 := Lib.hid (HB1.out.trans (bw2.mono HB1.out.size))
  clear hw2 bw2 H1 F1 E1 HB1
  go_wp2_with (fail)
  refine (c3 _).mono ?_
  rintro e wx ⟨rfl, rfl⟩
  go_wp2
  go_ret
  exact ⟨rfl, HB2.out⟩
theorem prepared_any (a b c p0 p1 p2 p3 p4 s r : Int) (ao : Option Addr) (cap : Nat) (L : List Q) (w : World) (h : LiesO w ao L) (hr : csR a b c L [p0, p1, p2, p3, p4] s r) (hlen : L.length ≤ 1000000) : Calls Tryz.prog 65 #[.agg #[.int .i64 a, .int .i64 b, .int .i64 c, .slice ao L.length cap], .agg #[.int .i64 p0, .int .i64 p1, .int .i64 p2, .int .i64 p3, .int .i64 p4], .int .i64 s] w fun e w' => e = .returned (.int .i64 r) ∧ Below w.heap.size w w' := by
  rcases hr with ⟨hk, h0⟩ | ⟨hk, hd⟩
  · rcases hk with ⟨h1, _⟩ | ⟨h1, h2⟩
    · exact prep_a a b c p0 p1 p2 p3 p4 s r ao cap L w h h1 h0 hlen
    · rcases h2 with ⟨-, h3⟩ | ⟨h2, rfl⟩
      · exact absurd h3 h0
      · exact prep_b a b c p0 p1 p2 p3 p4 s ao cap L w h h1 (.inr ⟨h2, rfl⟩) hlen
  · rcases hk with ⟨_, h1⟩ | ⟨h1, h2⟩
    · exact absurd rfl h1
    · rcases hd with ⟨hs, rfl⟩ | ⟨hs, rfl⟩
      · exact prep_d a b c p0 p1 p2 p3 p4 s ao cap L w h h1 h2 hs hlen
      · exact prep_c a b c p0 p1 p2 p3 p4 s ao cap L w h h1 h2 hs hlen
set_option maxHeartbeats 6400000 in
theorem refSweep_good (a b c p0 p1 p2 p3 p4 s q : Int) (bl off cap : Nat) (L T : List Q) (M : List Int) (w : World) (hm : Lies w bl off L)
    (c1 : ∀ (W : World) (_ : Lies W bl off L), Calls Tryz.prog 65 #[.agg #[.int .i64 a, .int .i64 b, .int .i64 c, .slice (some ⟨bl, off, none⟩) L.length cap], .agg #[.int .i64 p0, .int .i64 p1, .int .i64 p2, .int .i64 p3, .int .i64 p4], .int .i64 s] W fun e w' => e = .returned (.int .i64 0) ∧ Below W.heap.size W w')
    (c2 : ∀ (W : World) (_ : Lies W bl off L), Calls Tryz.prog 66 #[.agg #[.int .i64 a, .int .i64 b, .int .i64 c, .slice (some ⟨bl, off, none⟩) L.length cap], .agg #[.int .i64 p0, .int .i64 p1, .int .i64 p2, .int .i64 p3, .int .i64 p4], .int .i64 s, .int .i64 L.length] W fun e w' => (∃ (g gk : Nat) (mo : Option Addr) (mk : Nat), e = .returned (.tuple #[.agg #[.int .i64 a, .int .i64 b, .int .i64 c, .slice (some ⟨g, 0, none⟩) L.length gk], .int .i64 q, .slice mo L.length mk]) ∧ LBox w' g T ∧ W.heap.size ≤ g ∧ LiesOI w' mo M ∧ (∀ o f : Nat, mo = some ⟨o, f, none⟩ → W.heap.size ≤ o)) ∧ Below W.heap.size W w') : Calls Tryz.prog 28 #[.agg #[.int .i64 a, .int .i64 b, .int .i64 c, .slice (some ⟨bl, off, none⟩) L.length cap], .agg #[.int .i64 p0, .int .i64 p1, .int .i64 p2, .int .i64 p3, .int .i64 p4], .int .i64 s] w fun e w' => (∃ (g gk : Nat) (mo : Option Addr) (mk : Nat), e = .returned (.tuple #[.agg #[.int .i64 a, .int .i64 b, .int .i64 c, .slice (some ⟨g, 0, none⟩) L.length gk], .int .i64 q, .slice mo L.length mk, .int .i64 0]) ∧ LBox w' g T ∧ w.heap.size ≤ g ∧ LiesOI w' mo M ∧ (∀ o f : Nat, mo = some ⟨o, f, none⟩ → w.heap.size ≤ o)) ∧ Below w.heap.size w w' := by
  have H0 := Lib.hid hm
  clear hm
  go_enter Tryz.func28, Tryz.ntmps28
  go_wp2_with (fail)
  refine (c1 _ (H0.out.later ba3)).mono ?_
  rintro e w1 ⟨rfl, hw1⟩
  have bw1 : Below w.heap.size w w1 := bel3 hw1
  have F1 := Lib.hid (FW.n3a.later hw1)
  have E1 := Lib.hid (C5.n3b.later hw1)
  have Z1 := Lib.hid (FW.n3c.later hw1)
  have H1 := Lib.hid (H0.out.later bw1)
  have HB1 := Lib.hid bw1
  clear hw1 bw1 H0
  obtain ⟨f1_0, f1_1, f1_2, f1_3, f1_4, f1_5⟩ := F1.out
  obtain ⟨e1_0, e1_1, e1_2, e1_3, e1_4, e1_5, e1_6⟩ := E1.out
  go_wp2_with (fail)
  refine (c2 _ (H1.out)).mono ?_
  rintro e w2 ⟨⟨g, gk, mo, mk, rfl, hG, hge, hM, hmo⟩, hw2⟩
  have hgz := Z1.out.lt
  have hgg : w.heap.size + 1 + 1 < g := Nat.lt_of_lt_of_le hgz hge
  have hmg : ∀ o f : Nat, mo = some ⟨o, f, none⟩ → w.heap.size + 1 + 1 < o := fun o f e => Nat.lt_of_lt_of_le hgz (hmo o f e)
  have HMG := Lib.hid hmg
  clear hgz hge hmo hmg
  clear f1_0 f1_1 f1_2 f1_3 f1_4 f1_5 e1_0 e1_1 e1_2 e1_3 e1_4 e1_5 e1_6
  have bw2 : Below w1.heap.size w1 w2 := hw2
  have H2 := Lib.hid (H1.out.later bw2)
  have F2 := Lib.hid (F1.out.later bw2)
  have E2 := Lib.hid (E1.out.later bw2)
  have Z2 := Lib.hid (Z1.out.later bw2)
  have HB2 := Lib.hid (HB1.out.trans (bw2.mono HB1.out.size))
  have G2 := Lib.hid hG
  clear hG
  have M2 := Lib.hid hM
  clear hM
  clear hw2 bw2 H1 F1 E1 Z1 HB1
  clear H2
  clear F2
  clear E2
  have nx : Below w2.heap.size w2 (w2.alloc (.cells #[.int .i64 a, .int .i64 b, .int .i64 c, .slice (some ⟨g, 0, none⟩) L.length gk] 25)) := ba1
  have Z3 := Lib.hid (Z2.out.later nx)
  have G3 := Lib.hid (G2.out.later nx)
  have M3 := Lib.hid (M2.out.later nx)
  have HB3 := Lib.hid (HB2.out.trans (nx.mono HB2.out.size))
  clear nx HB2 Z2 G2 M2
  obtain ⟨z3_0, z3_1, z3_2, z3_3, z3_4, z3_5⟩ := Z3.out
  have hb := HB3.out
  have GZ := grown_setCells (w.heap.size + 1 + 1) [.int .i64 a, .int .i64 b, .int .i64 c, .slice (some ⟨g, 0, none⟩) L.length gk] 0 (w2.alloc (.cells #[.int .i64 a, .int .i64 b, .int .i64 c, .slice (some ⟨g, 0, none⟩) L.length gk] 25))
  have lY := Lib.hid (G3.out.grown GZ (by simp; omega))
  have hbY := Lib.hid (hb.grown GZ hb.size (fun j hj => by cases hj; omega))
  have moY := Lib.hid (liesOI_far M3.out GZ (fun o f e => by have := HMG.out o f e; simp; omega))
  clear GZ hb
  go_wp2
  refine bodyPost_ret (v := .tuple #[.agg #[.int .i64 a, .int .i64 b, .int .i64 c, .slice (some ⟨g, 0, none⟩) L.length gk], .int .i64 q, .slice mo L.length mk, .int .i64 0]) ?_ rfl ⟨⟨g, gk, mo, mk, rfl, lY.out, by omega, moY.out, fun o f e => by have := HMG.out o f e; omega⟩, hbY.out⟩
  simp [results, Tryz.results28, go_sem, z3_0, z3_1, z3_2, z3_3, z3_5]
theorem eqMv (k j v d : Int) (W : World) : Sem.run Tryz.prog (Op.equalIn 10000 106 (.agg #[.int .i64 k, .int .i64 j, .int .i64 v, .int .i64 d]) (.agg #[.int .i64 k, .int .i64 j, .int .i64 v, .int .i64 d])) W = .ok true W := by simp [go_sem]
/-- four numbers of a list -/
theorem four_at {w : World} {b o : Nat} {M : List Int} (h : LiesI w b o M) (k : Nat) (hk : k * 4 + 3 < M.length) : ∃ x y z t : Int, (w.cell? ⟨b, o + k * 4, none⟩ = some (.int .i64 x) ∧ w.cell? ⟨b, o + k * 4 + 1, none⟩ = some (.int .i64 y) ∧ w.cell? ⟨b, o + k * 4 + 2, none⟩ = some (.int .i64 z) ∧ w.cell? ⟨b, o + k * 4 + 3, none⟩ = some (.int .i64 t)) ∧ M[k * 4]? = some x ∧ M[k * 4 + 1]? = some y ∧ M[k * 4 + 2]? = some z ∧ M[k * 4 + 3]? = some t := by
  have h0 : M[k * 4]? = some (M[k * 4]'(by omega)) := List.getElem?_eq_getElem _
  have h1 : M[k * 4 + 1]? = some (M[k * 4 + 1]'(by omega)) := List.getElem?_eq_getElem _
  have h2 : M[k * 4 + 2]? = some (M[k * 4 + 2]'(by omega)) := List.getElem?_eq_getElem _
  have h3 : M[k * 4 + 3]? = some (M[k * 4 + 3]'(by omega)) := List.getElem?_eq_getElem _
  exact ⟨_, _, _, _, ⟨h _ _ h0, by have := h _ _ h1; rwa [show o + (k * 4 + 1) = o + k * 4 + 1 by omega] at this, by have := h _ _ h2; rwa [show o + (k * 4 + 2) = o + k * 4 + 2 by omega] at this, by have := h _ _ h3; rwa [show o + (k * 4 + 3) = o + k * 4 + 3 by omega] at this⟩, h0, h1, h2, h3⟩
set_option maxHeartbeats 3200000 in
theorem sameMv_any (n c1 c2 : Nat) (a1 a2 : Option Addr) (M : List Int) (w : World) (hM : M.length = n * 4) (h1 : LiesOI w a1 M) (h2 : LiesOI w a2 M) (hlen : n ≤ 1000000) : Calls Tryz.prog 29 #[.slice a1 n c1, .slice a2 n c2] w fun e w' => e = .returned (.bool true) ∧ Below w.heap.size w w' := by
  have H1 := Lib.hid h1
  have H2 := Lib.hid h2
  have HM := Lib.hid hM
  have kc := @Tail.cell_re
  clear h1 h2 hM
  go_enter Tryz.func29, Tryz.ntmps29
  go_wp2
  go_loopw [5] (fun q wr => ∃ k : Nat, k ≤ n ∧ q = .int .i64 k ∧ Below w.heap.size w wr) (fun q _ => n - (intOf q).toNat)
  case atStart => exact ⟨0, by omega, rfl, Below.refl _ _⟩
  case round =>
    obtain ⟨k, hk, rfl, hb⟩ := hrel
    by_cases hlt : k < n
    · have i1 : (k : Int) < (n : Int) := by omega
      have hbs := hb.size
      have hne : M ≠ [] := fun e => by have := HM.out; rw [e] at this; simp at this; omega
      rcases H1.out.later hb with h | ⟨b1, o1, rfl, h1⟩
      · exact absurd h hne
      rcases H2.out.later hb with h | ⟨b2, o2, rfl, h2⟩
      · exact absurd h hne
      obtain ⟨x, y, z, t, ⟨l0, l1, l2, l3⟩, m0, m1, m2, m3⟩ := four_at h1 k (by have := HM.out; omega)
      obtain ⟨x', y', z', t', ⟨r0, r1, r2, r3⟩, n0, n1, n2, n3⟩ := four_at h2 k (by have := HM.out; omega)
      obtain rfl : x = x' := Option.some.inj (m0.symm.trans n0)
      obtain rfl : y = y' := Option.some.inj (m1.symm.trans n1)
      obtain rfl : z = z' := Option.some.inj (m2.symm.trans n2)
      obtain rfl : t = t' := Option.some.inj (m3.symm.trans n3)
      have lb1 := World.block_lt_of_cell? wr _ l0
      have lb2 := World.block_lt_of_cell? wr _ r0
      have qx := eqMv x y z t
      clear m0 m1 m2 m3 n0 n1 n2 n3 h1 h2 hne H1 H2
      go_wp2
      refine Tail.region_below (by kernel_rfl) (by kernel_rfl) ?_
      repeat (go_big_quiet_step (fail))
      refine wpQuiet_nil ?_
      intro w1 hw1
      clear l0 l1 l2 l3 r0 r1 r2 r3 lb1 lb2
      go_wp2
      exact ⟨⟨k + 1, by omega, by go_num, hb.trans (hw1.mono hbs)⟩, by simp [intOf]; omega⟩
    · obtain rfl : k = n := by omega
      go_wp2
      go_ret
      exact ⟨rfl, hb⟩
end Go.Proofs.YtpfhjdmgkckjfaaGreatDoor
