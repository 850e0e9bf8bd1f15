/- Sweeps: their errors on both sides, and the program's sweep; whether two lists of moves are the same.
Conditions: those written at each theorem. -/
import Derived.Test.YtpfhjdmgkckjfaaGreatDoorSFmvC
import Derived.Test.YtpfhjdmgkckjfaaGreatDoorSRvwC
namespace Go.Proofs.YtpfhjdmgkckjfaaGreatDoor
set_option linter.unusedVariables false
set_option linter.unusedSimpArgs false
set_option maxRecDepth 1000000
open Go.RowKit
open Um Tm Cm

/-- the error of a field, of weights and of a seed -/
def csR (a b c : Int) (L : List Q) (ws : List Int) (s r : Int) : Prop := (ckR a b c L ws r ∧ r ≠ 0) ∨ (ckR a b c L ws 0 ∧ ((IsSeed s ∧ r = 0) ∨ (¬ IsSeed s ∧ r = 1)))
theorem csR_ex (a b c : Int) (L : List Q) (ws : List Int) (s : Int) : ∃ r, csR a b c L ws s r := by
  obtain ⟨r, hr⟩ := ckR_ex a b c L ws
  by_cases h0 : r = 0
  · subst h0
    by_cases h : IsSeed s
    · exact ⟨0, .inr ⟨hr, .inl ⟨h, rfl⟩⟩⟩
    · exact ⟨1, .inr ⟨hr, .inr ⟨h, rfl⟩⟩⟩
  · exact ⟨r, .inl ⟨hr, h0⟩⟩
theorem csR_ok {a b c s : Int} {L : List Q} {ws : List Int} (h : csR a b c L ws s 0) : SwI a b c L s L.length ∧ WOk ws := by
  rcases h with ⟨-, h⟩ | ⟨hc, h⟩
  · exact absurd rfl h
  · rcases hc with ⟨-, h'⟩ | ⟨hl, hv⟩
    · exact absurd rfl h'
    · have k := ltR_ok hl
      rcases h with ⟨h, -⟩ | ⟨-, h⟩
      · rcases hv with ⟨hv, -⟩ | ⟨-, h'⟩
        · exact ⟨⟨k, h, rfl⟩, hv⟩
        · exact absurd h' (by decide)
      · exact absurd h (by decide)
set_option maxHeartbeats 1600000 in
theorem checkSweep_any (a b c p0 p1 p2 p3 p4 s r : Int) (ao : Option Addr) (cap : Nat) (L : List Q) (w : World) (h : LiesO w ao L) (hr : csR a b c L [p0, p1, p2, p3, p4] s r) (hlen : L.length ≤ 1000000) : Calls Tryz.prog 63 #[.agg #[.int .i64 a, .int .i64 b, .int .i64 c, .slice ao L.length cap], .agg #[.int .i64 p0, .int .i64 p1, .int .i64 p2, .int .i64 p3, .int .i64 p4], .int .i64 s] w fun e w' => e = .returned (.int .i64 r) ∧ Below w.heap.size w w' := by
  have h1 := Lib.hid h
  rcases hr with ⟨hr, h0⟩ | ⟨hr, hv⟩
  · have c1 := fun (W : World) h => checkWeighted_any a b c p0 p1 p2 p3 p4 r ao cap L W h hr hlen
    have h0' : (r != 0) = true := by simpa using h0
    have h0'' : (r == 0) = false := by simpa using h0
    clear h hr h0
    go_enter Tryz.func63, Tryz.ntmps63
    go_wp2_with (fail)
    refine (c1 _ (h1.out.later ba2)).mono ?_
    rintro e w5 ⟨rfl, hw5⟩
    go_wp2
    go_ret
    exact ⟨rfl, bel2 hw5⟩
  · have c1 := fun (W : World) h => checkWeighted_any a b c p0 p1 p2 p3 p4 0 ao cap L W h hr hlen
    have c2 := fun (W : World) => checkSeed_any s r W (hv.imp (fun h => ⟨h.1, h.2⟩) (fun h => ⟨h.1, h.2⟩))
    clear h hr hv
    go_enter Tryz.func63, Tryz.ntmps63
    go_wp2_with (fail)
    refine (c1 _ (h1.out.later ba2)).mono ?_
    rintro e w5 ⟨rfl, hw5⟩
    go_wp2_with (fail)
    refine (c2 _).mono ?_
    rintro e w6 ⟨rfl, rfl⟩
    go_wp2
    go_ret
    exact ⟨rfl, bel2 hw5⟩
set_option maxHeartbeats 3200000 in
theorem sweep_bad (a b c p0 p1 p2 p3 p4 s r : Int) (ao : Option Addr) (cap : Nat) (L : List Q) (w : World) (hm : LiesO w ao L) (hr : r ≠ 0)
    (c1 : ∀ (W : World) (_ : LiesO W ao L), Calls Tryz.prog 63 #[.agg #[.int .i64 a, .int .i64 b, .int .i64 c, .slice ao L.length cap], .agg #[.int .i64 p0, .int .i64 p1, .int .i64 p2, .int .i64 p3, .int .i64 p4], .int .i64 s] W fun e w' => e = .returned (.int .i64 r) ∧ Below W.heap.size W w') : Calls Tryz.prog 27 #[.agg #[.int .i64 a, .int .i64 b, .int .i64 c, .slice ao L.length cap], .agg #[.int .i64 p0, .int .i64 p1, .int .i64 p2, .int .i64 p3, .int .i64 p4], .int .i64 s] w fun e w' => e = .returned (.tuple #[.agg #[.int .i64 0, .int .i64 0, .int .i64 0, .slice none 0 0], .int .i64 0, .slice none 0 0, .int .i64 r]) ∧ Below w.heap.size w w' := by
  have h0' : (r != 0) = true := by simpa using hr
  have h0'' : (r == 0) = false := by simpa using hr
  have H0 := Lib.hid hm
  clear hm hr
  go_enter Tryz.func27, Tryz.ntmps27
  go_wp2_with (fail)
  refine (c1 _ (H0.out.later ba3)).mono ?_
  rintro e w1 ⟨rfl, hw1⟩
  have bw1 : Below w.heap.size w w1 := bel3 hw1
  have F1 := Lib.hid (FW.n3a.later hw1)
  have E1 := Lib.hid (C5.n3b.later hw1)
  have Z1 := Lib.hid (FW.n3c.later hw1)
  have H1 := Lib.hid (H0.out.later bw1)
  have HB1 := Lib.hid bw1
  clear hw1 bw1 H0
  clear H1
  clear F1
  clear E1
  obtain ⟨z1_0, z1_1, z1_2, z1_3, z1_4, z1_5⟩ := Z1.out
  go_wp2
  refine bodyPost_ret (v := .tuple #[.agg #[.int .i64 0, .int .i64 0, .int .i64 0, .slice none 0 0], .int .i64 0, .slice none 0 0, .int .i64 r]) ?_ rfl ⟨rfl, ?_⟩
  · simp [results, Tryz.results27, go_sem, z1_0, z1_1, z1_2, z1_3, z1_5]
  · have hb := HB1.out
    repeat (first | (with_reducible exact Below.refl _ _) | (with_reducible refine Below.setCell ?_ ?_ _) | (with_reducible refine Below.drew ?_) | (with_reducible refine Below.alloc ?_ ?_ _) | (with_reducible refine Below.trans ?_ (Below.mono hb ?_)) | (with_reducible exact hb.size) | omega | (simp <;> omega) | (simp <;> (have s := hb.size; omega)) | (have s0 := hb.size; (try simp at s0); (try simp); omega))
set_option maxHeartbeats 3200000 in
theorem refSweep_bad (a b c p0 p1 p2 p3 p4 s r : Int) (ao : Option Addr) (cap : Nat) (L : List Q) (w : World) (hm : LiesO w ao L) (hr : r ≠ 0)
    (c1 : ∀ (W : World) (_ : LiesO W ao L), Calls Tryz.prog 65 #[.agg #[.int .i64 a, .int .i64 b, .int .i64 c, .slice ao L.length cap], .agg #[.int .i64 p0, .int .i64 p1, .int .i64 p2, .int .i64 p3, .int .i64 p4], .int .i64 s] W fun e w' => e = .returned (.int .i64 r) ∧ Below W.heap.size W w') : Calls Tryz.prog 28 #[.agg #[.int .i64 a, .int .i64 b, .int .i64 c, .slice ao L.length cap], .agg #[.int .i64 p0, .int .i64 p1, .int .i64 p2, .int .i64 p3, .int .i64 p4], .int .i64 s] w fun e w' => e = .returned (.tuple #[.agg #[.int .i64 0, .int .i64 0, .int .i64 0, .slice none 0 0], .int .i64 0, .slice none 0 0, .int .i64 r]) ∧ Below w.heap.size w w' := by
  have h0' : (r != 0) = true := by simpa using hr
  have h0'' : (r == 0) = false := by simpa using hr
  have H0 := Lib.hid hm
  clear hm hr
  go_enter Tryz.func28, Tryz.ntmps28
  go_wp2_with (fail)
  refine (c1 _ (H0.out.later ba3)).mono ?_
  rintro e w1 ⟨rfl, hw1⟩
  have bw1 : Below w.heap.size w w1 := bel3 hw1
  have F1 := Lib.hid (FW.n3a.later hw1)
  have E1 := Lib.hid (C5.n3b.later hw1)
  have Z1 := Lib.hid (FW.n3c.later hw1)
  have H1 := Lib.hid (H0.out.later bw1)
  have HB1 := Lib.hid bw1
  clear hw1 bw1 H0
  clear H1
  clear F1
  clear E1
  obtain ⟨z1_0, z1_1, z1_2, z1_3, z1_4, z1_5⟩ := Z1.out
  go_wp2
  refine bodyPost_ret (v := .tuple #[.agg #[.int .i64 0, .int .i64 0, .int .i64 0, .slice none 0 0], .int .i64 0, .slice none 0 0, .int .i64 r]) ?_ rfl ⟨rfl, ?_⟩
  · simp [results, Tryz.results28, go_sem, z1_0, z1_1, z1_2, z1_3, z1_5]
  · have hb := HB1.out
    repeat (first | (with_reducible exact Below.refl _ _) | (with_reducible refine Below.setCell ?_ ?_ _) | (with_reducible refine Below.drew ?_) | (with_reducible refine Below.alloc ?_ ?_ _) | (with_reducible refine Below.trans ?_ (Below.mono hb ?_)) | (with_reducible exact hb.size) | omega | (simp <;> omega) | (simp <;> (have s := hb.size; omega)) | (have s0 := hb.size; (try simp at s0); (try simp); omega))
set_option maxHeartbeats 6400000 in
theorem sweep_good (a b c p0 p1 p2 p3 p4 s q : Int) (bl off cap : Nat) (L T : List Q) (M : List Int) (w : World) (hm : Lies w bl off L) (hst : StA w)
    (c1 : ∀ (W : World) (_ : Lies W bl off L), Calls Tryz.prog 63 #[.agg #[.int .i64 a, .int .i64 b, .int .i64 c, .slice (some ⟨bl, off, none⟩) L.length cap], .agg #[.int .i64 p0, .int .i64 p1, .int .i64 p2, .int .i64 p3, .int .i64 p4], .int .i64 s] W fun e w' => e = .returned (.int .i64 0) ∧ Below W.heap.size W w')
    (c2 : ∀ (W : World) (_ : Lies W bl off L) (_ : StA W), Calls Tryz.prog 64 #[.agg #[.int .i64 a, .int .i64 b, .int .i64 c, .slice (some ⟨bl, off, none⟩) L.length cap], .agg #[.int .i64 p0, .int .i64 p1, .int .i64 p2, .int .i64 p3, .int .i64 p4], .int .i64 s, .int .i64 L.length] W fun e w' => (∃ (g gk : Nat) (mo : Option Addr) (mk : Nat), e = .returned (.tuple #[.agg #[.int .i64 a, .int .i64 b, .int .i64 c, .slice (some ⟨g, 0, none⟩) L.length gk], .int .i64 q, .slice mo L.length mk, .int .i64 0]) ∧ LBox w' g T ∧ W.heap.size ≤ g ∧ LiesOI w' mo M ∧ (∀ o f : Nat, mo = some ⟨o, f, none⟩ → W.heap.size ≤ o)) ∧ Below W.heap.size W w') : Calls Tryz.prog 27 #[.agg #[.int .i64 a, .int .i64 b, .int .i64 c, .slice (some ⟨bl, off, none⟩) L.length cap], .agg #[.int .i64 p0, .int .i64 p1, .int .i64 p2, .int .i64 p3, .int .i64 p4], .int .i64 s] w fun e w' => (∃ (g gk : Nat) (mo : Option Addr) (mk : Nat), e = .returned (.tuple #[.agg #[.int .i64 a, .int .i64 b, .int .i64 c, .slice (some ⟨g, 0, none⟩) L.length gk], .int .i64 q, .slice mo L.length mk, .int .i64 0]) ∧ LBox w' g T ∧ w.heap.size ≤ g ∧ LiesOI w' mo M ∧ (∀ o f : Nat, mo = some ⟨o, f, none⟩ → w.heap.size ≤ o)) ∧ Below w.heap.size w w' := by
  have H0 := Lib.hid hm
  have S0 := Lib.hid hst
  clear hm hst
  go_enter Tryz.func27, Tryz.ntmps27
  go_wp2_with (fail)
  refine (c1 _ (H0.out.later ba3)).mono ?_
  rintro e w1 ⟨rfl, hw1⟩
  have bw1 : Below w.heap.size w w1 := bel3 hw1
  have F1 := Lib.hid (FW.n3a.later hw1)
  have E1 := Lib.hid (C5.n3b.later hw1)
  have Z1 := Lib.hid (FW.n3c.later hw1)
  have H1 := Lib.hid (H0.out.later bw1)
  have S1 := Lib.hid (S0.out.later bw1)
  have HB1 := Lib.hid bw1
  clear hw1 bw1 H0 S0
  obtain ⟨f1_0, f1_1, f1_2, f1_3, f1_4, f1_5⟩ := F1.out
  obtain ⟨e1_0, e1_1, e1_2, e1_3, e1_4, e1_5, e1_6⟩ := E1.out
  go_wp2_with (fail)
  refine (c2 _ (H1.out) (S1.out)).mono ?_
  rintro e w2 ⟨⟨g, gk, mo, mk, rfl, hG, hge, hM, hmo⟩, hw2⟩
  have hgz := Z1.out.lt
  have hgg : w.heap.size + 1 + 1 < g := Nat.lt_of_lt_of_le hgz hge
  have hmg : ∀ o f : Nat, mo = some ⟨o, f, none⟩ → w.heap.size + 1 + 1 < o := fun o f e => Nat.lt_of_lt_of_le hgz (hmo o f e)
  have HMG := Lib.hid hmg
  clear hgz hge hmo hmg
  clear f1_0 f1_1 f1_2 f1_3 f1_4 f1_5 e1_0 e1_1 e1_2 e1_3 e1_4 e1_5 e1_6
  have bw2 : Below w1.heap.size w1 w2 := hw2
  have H2 := Lib.hid (H1.out.later bw2)
  have S2 := Lib.hid (S1.out.later bw2)
  have F2 := Lib.hid (F1.out.later bw2)
  have E2 := Lib.hid (E1.out.later bw2)
  have Z2 := Lib.hid (Z1.out.later bw2)
  have HB2 := Lib.hid (HB1.out.trans (bw2.mono HB1.out.size))
  have G2 := Lib.hid hG
  clear hG
  have M2 := Lib.hid hM
  clear hM
  clear hw2 bw2 H1 S1 F1 E1 Z1 HB1
  clear H2
  clear S2
  clear F2
  clear E2
  obtain ⟨z2_0, z2_1, z2_2, z2_3, z2_4, z2_5⟩ := Z2.out
  have hb := HB2.out
  have GZ := grown_setCells (w.heap.size + 1 + 1) [.int .i64 a, .int .i64 b, .int .i64 c, .slice (some ⟨g, 0, none⟩) L.length gk] 0 w2
  go_wp2
  refine bodyPost_ret (v := .tuple #[.agg #[.int .i64 a, .int .i64 b, .int .i64 c, .slice (some ⟨g, 0, none⟩) L.length gk], .int .i64 q, .slice mo L.length mk, .int .i64 0]) ?_ rfl ⟨⟨g, gk, mo, mk, rfl, G2.out.grown GZ (by simp; omega), by omega, liesOI_far M2.out GZ (fun o f e => by have := HMG.out o f e; simp; omega), fun o f e => by have := HMG.out o f e; omega⟩, hb.grown GZ hb.size (fun j hj => by cases hj; omega)⟩
  simp [results, Tryz.results27, go_sem, z2_0, z2_1, z2_2, z2_3, z2_5]
end Go.Proofs.YtpfhjdmgkckjfaaGreatDoor
