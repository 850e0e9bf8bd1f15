/- Sweeps of the document's answers: their errors, and the whole; whether two lists of moves are the same.
Conditions: those written at each theorem. -/
import Derived.Test.YtpfhjdmgkckjfaaGreatDoorARswC
import Derived.Test.YtpfhjdmgkckjfaaGreatDoorALaidS
import Derived.ChangeKeysEq
namespace Go.Proofs.YtpfhjdmgkckjfaaGreatDoor
set_option linter.unusedVariables false
set_option linter.unusedSimpArgs false
set_option maxRecDepth 1000000
open Go.RowKit
open Um Tm Cm

set_option maxHeartbeats 1600000 in
theorem prep_a (a b c p0 p1 p2 p3 p4 s r : Int) (ao : Option Addr) (cap : Nat) (L : List Q) (w : World) (h : LiesO w ao L) (hl : ltR a b c L r) (h0 : r ≠ 0) (hlen : L.length ≤ 1000000) : Calls Tryz.prog 65 #[.agg #[.int .i64 a, .int .i64 b, .int .i64 c, .slice ao L.length cap], .agg #[.int .i64 p0, .int .i64 p1, .int .i64 p2, .int .i64 p3, .int .i64 p4], .int .i64 s] w fun e w' => e = .returned (.int .i64 r) ∧ Below w.heap.size w w' := by
  have c1 := fun (W : World) h => little_lt a b c r ao cap L W h hl hlen
  have h0' : (r != 0) = true := by simpa using h0
  have h0'' : (r == 0) = false := by simpa using h0
  have H0 := Lib.hid h
  clear h hl h0
  go_enter Tryz.func65, Tryz.ntmps65
  go_wp2_with (fail)
  refine (c1 _ (H0.out.later ba2)).mono ?_
  rintro e w1 ⟨rfl, hw1⟩
  have bw1 : Below w.heap.size w w1 := bel2 hw1
  have F1 := Lib.hid (FW.n2a.later hw1)
  have E1 := Lib.hid (C5.n2b.later hw1)
  have H1 := Lib.hid (H0.out.later bw1)
  have HB1 := Lib.hid bw1
  clear hw1 bw1 H0
  go_wp2
  go_ret
  exact ⟨rfl, HB1.out⟩
set_option maxHeartbeats 1600000 in
theorem prep_b (a b c p0 p1 p2 p3 p4 s : Int) (ao : Option Addr) (cap : Nat) (L : List Q) (w : World) (h : LiesO w ao L) (hl : ltR a b c L 0) (hv : vwR [p0, p1, p2, p3, p4] 1) (hlen : L.length ≤ 1000000) : Calls Tryz.prog 65 #[.agg #[.int .i64 a, .int .i64 b, .int .i64 c, .slice ao L.length cap], .agg #[.int .i64 p0, .int .i64 p1, .int .i64 p2, .int .i64 p3, .int .i64 p4], .int .i64 s] w fun e w' => e = .returned (.int .i64 1) ∧ Below w.heap.size w w' := by
  have c1 := fun (W : World) h => little_lt a b c 0 ao cap L W h hl hlen
  have c2 := fun W : World => refVw_any p0 p1 p2 p3 p4 1 W hv
  have H0 := Lib.hid h
  clear h hl hv
  go_enter Tryz.func65, Tryz.ntmps65
  go_wp2_with (fail)
  refine (c1 _ (H0.out.later ba2)).mono ?_
  rintro e w1 ⟨rfl, hw1⟩
  have bw1 : Below w.heap.size w w1 := bel2 hw1
  have F1 := Lib.hid (FW.n2a.later hw1)
  have E1 := Lib.hid (C5.n2b.later hw1)
  have H1 := Lib.hid (H0.out.later bw1)
  have HB1 := Lib.hid bw1
  clear hw1 bw1 H0
  obtain ⟨e1_0, e1_1, e1_2, e1_3, e1_4, e1_5, e1_6⟩ := E1.out
  go_wp2_with (fail)
  refine (c2 _).mono ?_
  rintro e w2 ⟨rfl, hw2⟩
  clear e1_0 e1_1 e1_2 e1_3 e1_4 e1_5 e1_6
  have bw2 : Below w1.heap.size w1 w2 := hw2
  have H2 := Lib.hid (H1.out.later bw2)
  have F2 := Lib.hid (F1.out.later bw2)
  have E2 := Lib.hid (E1.out.later bw2)
  have HB2 := Lib.hid (HB1.out.trans (bw2.mono HB1.out.size))
  clear hw2 bw2 H1 F1 E1 HB1
  go_wp2
  go_ret
  exact ⟨rfl, HB2.out⟩
set_option maxHeartbeats 1600000 in
theorem prep_c (a b c p0 p1 p2 p3 p4 s : Int) (ao : Option Addr) (cap : Nat) (L : List Q) (w : World) (h : LiesO w ao L) (hl : ltR a b c L 0) (hv : vwR [p0, p1, p2, p3, p4] 0) (hs : ¬ IsSeed s) (hlen : L.length ≤ 1000000) : Calls Tryz.prog 65 #[.agg #[.int .i64 a, .int .i64 b, .int .i64 c, .slice ao L.length cap], .agg #[.int .i64 p0, .int .i64 p1, .int .i64 p2, .int .i64 p3, .int .i64 p4], .int .i64 s] w fun e w' => e = .returned (.int .i64 1) ∧ Below w.heap.size w w' := by
  have c1 := fun (W : World) h => little_lt a b c 0 ao cap L W h hl hlen
  have c2 := fun W : World => refVw_any p0 p1 p2 p3 p4 0 W hv
  have c3 := fun W : World => isSeed_any s W false (.inr ⟨hs, rfl⟩)
  have H0 := Lib.hid h
  clear h hl hv hs
  go_enter Tryz.func65, Tryz.ntmps65
  go_wp2_with (fail)
  refine (c1 _ (H0.out.later ba2)).mono ?_
  rintro e w1 ⟨rfl, hw1⟩
  have bw1 : Below w.heap.size w w1 := bel2 hw1
  have F1 := Lib.hid (FW.n2a.later hw1)
  have E1 := Lib.hid (C5.n2b.later hw1)
  have H1 := Lib.hid (H0.out.later bw1)
  have HB1 := Lib.hid bw1
  clear hw1 bw1 H0
  obtain ⟨e1_0, e1_1, e1_2, e1_3, e1_4, e1_5, e1_6⟩ := E1.out
  go_wp2_with (fail)
  refine (c2 _).mono ?_
  rintro e w2 ⟨rfl, hw2⟩
  clear e1_0 e1_1 e1_2 e1_3 e1_4 e1_5 e1_6
  have bw2 : Below w1.heap.size w1 w2 := hw2
  have H2 := Lib.hid (H1.out.later bw2)
  have F2 := Lib.hid (F1.out.later bw2)
  have E2 := Lib.hid (E1.out.later bw2)
  have HB2 := Lib.hid (HB1.out.trans (bw2.mono HB1.out.size))
  clear hw2 bw2 H1 F1 E1 HB1
  go_wp2_with (fail)
  refine (c3 _).mono ?_
  rintro e wx ⟨rfl, rfl⟩
  go_wp2
  go_ret
  exact ⟨rfl, HB2.out⟩
set_option maxHeartbeats 1600000 in
theorem prep_d (a b c p0 p1 p2 p3 p4 s : Int) (ao : Option Addr) (cap : Nat) (L : List Q) (w : World) (h : LiesO w ao L) (hl : ltR a b c L 0) (hv : vwR [p0, p1, p2, p3, p4] 0) (hs : IsSeed s) (hlen : L.length ≤ 1000000) : Calls Tryz.prog 65 #[.agg #[.int .i64 a, .int .i64 b, .int .i64 c, .slice ao L.length cap], .agg #[.int .i64 p0, .int .i64 p1, .int .i64 p2, .int .i64 p3, .int .i64 p4], .int .i64 s] w fun e w' => e = .returned (.int .i64 0) ∧ Below w.heap.size w w' := by
  have c1 := fun (W : World) h => little_lt a b c 0 ao cap L W h hl hlen
  have c2 := fun W : World => refVw_any p0 p1 p2 p3 p4 0 W hv
  have c3 := fun W : World => isSeed_any s W true (.inl ⟨hs, rfl⟩)
  have H0 := Lib.hid h
  clear h hl hv hs
  go_enter Tryz.func65, Tryz.ntmps65
  go_wp2_with (fail)
  refine (c1 _ (H0.out.later ba2)).mono ?_
  rintro e w1 ⟨rfl, hw1⟩
  have bw1 : Below w.heap.size w w1 := bel2 hw1
  have F1 := Lib.hid (FW.n2a.later hw1)
  have E1 := Lib.hid (C5.n2b.later hw1)
  have H1 := Lib.hid (H0.out.later bw1)
  have HB1 := Lib.hid bw1
  clear hw1 bw1 H0
  obtain ⟨e1_0, e1_1, e1_2, e1_3, e1_4, e1_5, e1_6⟩ := E1.out
  go_wp2_with (fail)
  refine (c2 _).mono ?_
  rintro e w2 ⟨rfl, hw2⟩
  clear e1_0 e1_1 e1_2 e1_3 e1_4 e1_5 e1_6
  have bw2 : Below w1.heap.size w1 w2 := hw2
  have H2 := Lib.hid (H1.out.later bw2)
  have F2 := Lib.hid (F1.out.later bw2)
  have E2 := Lib.hid (E1.out.later bw2)
  have HB2 := Lib.hid (HB1.out.trans (bw2.mono HB1.out.size))
  clear hw2 bw2 H1 F1 E1 HB1
  go_wp2_with (fail)
  refine (c3 _).mono ?_
  rintro e wx ⟨rfl, rfl⟩
  go_wp2
  go_ret
  exact ⟨rfl, HB2.out⟩
theorem prepared_any (a b c p0 p1 p2 p3 p4 s r : Int) (ao : Option Addr) (cap : Nat) (L : List Q) (w : World) (h : LiesO w ao L) (hr : csR a b c L [p0, p1, p2, p3, p4] s r) (hlen : L.length ≤ 1000000) : Calls Tryz.prog 65 #[.agg #[.int .i64 a, .int .i64 b, .int .i64 c, .slice ao L.length cap], .agg #[.int .i64 p0, .int .i64 p1, .int .i64 p2, .int .i64 p3, .int .i64 p4], .int .i64 s] w fun e w' => e = .returned (.int .i64 r) ∧ Below w.heap.size w w' := by
  rcases hr with ⟨hk, h0⟩ | ⟨hk, hd⟩
  · rcases hk with ⟨h1, _⟩ | ⟨h1, h2⟩
    · exact prep_a a b c p0 p1 p2 p3 p4 s r ao cap L w h h1 h0 hlen
    · rcases h2 with ⟨-, h3⟩ | ⟨h2, rfl⟩
      · exact absurd h3 h0
      · exact prep_b a b c p0 p1 p2 p3 p4 s ao cap L w h h1 (.inr ⟨h2, rfl⟩) hlen
  · rcases hk with ⟨_, h1⟩ | ⟨h1, h2⟩
    · exact absurd rfl h1
    · rcases hd with ⟨hs, rfl⟩ | ⟨hs, rfl⟩
      · exact prep_d a b c p0 p1 p2 p3 p4 s ao cap L w h h1 h2 hs hlen
      · exact prep_c a b c p0 p1 p2 p3 p4 s ao cap L w h h1 h2 hs hlen
theorem eqMv (k j v d : Int) (W : World) : Sem.run Tryz.prog (Op.equalIn 10000 106 (.agg #[.int .i64 k, .int .i64 j, .int .i64 v, .int .i64 d]) (.agg #[.int .i64 k, .int .i64 j, .int .i64 v, .int .i64 d])) W = .ok true W := by simp [go_sem]
/-- four numbers of a list -/
theorem four_at {w : World} {b o : Nat} {M : List Int} (h : LiesI w b o M) (k : Nat) (hk : k * 4 + 3 < M.length) : ∃ x y z t : Int, (w.cell? ⟨b, o + k * 4, none⟩ = some (.int .i64 x) ∧ w.cell? ⟨b, o + k * 4 + 1, none⟩ = some (.int .i64 y) ∧ w.cell? ⟨b, o + k * 4 + 2, none⟩ = some (.int .i64 z) ∧ w.cell? ⟨b, o + k * 4 + 3, none⟩ = some (.int .i64 t)) ∧ M[k * 4]? = some x ∧ M[k * 4 + 1]? = some y ∧ M[k * 4 + 2]? = some z ∧ M[k * 4 + 3]? = some t := by
  have h0 : M[k * 4]? = some (M[k * 4]'(by omega)) := List.getElem?_eq_getElem _
  have h1 : M[k * 4 + 1]? = some (M[k * 4 + 1]'(by omega)) := List.getElem?_eq_getElem _
  have h2 : M[k * 4 + 2]? = some (M[k * 4 + 2]'(by omega)) := List.getElem?_eq_getElem _
  have h3 : M[k * 4 + 3]? = some (M[k * 4 + 3]'(by omega)) := List.getElem?_eq_getElem _
  exact ⟨_, _, _, _, ⟨h _ _ h0, by have := h _ _ h1; rwa [show o + (k * 4 + 1) = o + k * 4 + 1 by omega] at this, by have := h _ _ h2; rwa [show o + (k * 4 + 2) = o + k * 4 + 2 by omega] at this, by have := h _ _ h3; rwa [show o + (k * 4 + 3) = o + k * 4 + 3 by omega] at this⟩, h0, h1, h2, h3⟩
end Go.Proofs.YtpfhjdmgkckjfaaGreatDoor
