/- Audits: moves that are given are held against those of a sweep, on both sides.
Conditions: those written at each theorem. -/
import Derived.Test.YtpfhjdmgkckjfaaGreatDoorASwrC
namespace Go.Proofs.YtpfhjdmgkckjfaaGreatDoor
set_option linter.unusedVariables false
set_option linter.unusedSimpArgs false
set_option maxRecDepth 1000000
open Go.RowKit
open Um Tm Cm

theorem mv_apart {x y z t x' y' z' t' : Int} (h : ¬ (x = x' ∧ y = y' ∧ z = z' ∧ t = t')) : ¬ x = x' ∨ (x = x' ∧ ¬ y = y') ∨ (x = x' ∧ y = y' ∧ ¬ z = z') ∨ (x = x' ∧ y = y' ∧ z = z' ∧ ¬ t = t') := by omega
theorem eqMvF (x y z t x' y' z' t' : Int) (h : ¬ (x = x' ∧ y = y' ∧ z = z' ∧ t = t')) (W : World) : Sem.run Tryz.prog (Op.equalIn 10000 106 (.agg #[.int .i64 x, .int .i64 y, .int .i64 z, .int .i64 t]) (.agg #[.int .i64 x', .int .i64 y', .int .i64 z', .int .i64 t'])) W = .ok false W := by
  rcases mv_apart h with h | h | h | h
  all_goals simp [go_sem, h]
/-- the same move at an index of two lists -/
def AgM (G O : List Int) (k : Nat) : Prop := ∀ t, t < 4 → G[k * 4 + t]? = O[k * 4 + t]?
/-- up to which move two lists agree -/
theorem ag_ex (G O : List Int) (n : Nat) : ∃ m, m ≤ n ∧ (∀ k, k < m → AgM G O k) ∧ (m = n ∨ (m < n ∧ ¬ AgM G O m)) := by
  induction n with
  | zero => exact ⟨0, Nat.le_refl _, fun k hk => by omega, .inl rfl⟩
  | succ n ih =>
    obtain ⟨m, h1, h2, h3⟩ := ih
    rcases h3 with rfl | ⟨h3, h4⟩
    · by_cases h : AgM G O m
      · refine ⟨m + 1, Nat.le_refl _, fun k hk => ?_, .inl rfl⟩
        by_cases e : k = m
        · subst e; exact h
        · exact h2 k (by omega)
      · exact ⟨m, by omega, h2, .inr ⟨by omega, h⟩⟩
    · exact ⟨m, by omega, h2, .inr ⟨by omega, h4⟩⟩
set_option maxHeartbeats 3200000 in
theorem audit_bad (a b c p0 p1 p2 p3 p4 s r : Int) (n mc : Nat) (mg ao : Option Addr) (cap : Nat) (L : List Q) (w : World) (hm : LiesO w ao L) (hr : r ≠ 0)
    (c1 : ∀ (W : World) (_ : LiesO W ao L), Calls Tryz.prog 63 #[.agg #[.int .i64 a, .int .i64 b, .int .i64 c, .slice ao L.length cap], .agg #[.int .i64 p0, .int .i64 p1, .int .i64 p2, .int .i64 p3, .int .i64 p4], .int .i64 s] W fun e w' => e = .returned (.int .i64 r) ∧ Below W.heap.size W w') : Calls Tryz.prog 32 #[.agg #[.int .i64 a, .int .i64 b, .int .i64 c, .slice ao L.length cap], .agg #[.int .i64 p0, .int .i64 p1, .int .i64 p2, .int .i64 p3, .int .i64 p4], .int .i64 s, .slice mg n mc] w fun e w' => e = .returned (.tuple #[.agg #[.int .i64 0, .int .i64 0, .int .i64 0, .slice none 0 0], .int .i64 0, .int .i64 0, .int .i64 r]) ∧ Below w.heap.size w w' := by
  have h0' : (r != 0) = true := by simpa using hr
  have h0'' : (r == 0) = false := by simpa using hr
  have H0 := Lib.hid hm
  clear hm hr
  go_enter Tryz.func32, Tryz.ntmps32
  go_wp2_with (fail)
  refine (c1 _ (H0.out.later ba3)).mono ?_
  rintro e w1 ⟨rfl, hw1⟩
  have bw1 : Below w.heap.size w w1 := bel3 hw1
  have F1 := Lib.hid (FW.n3a.later hw1)
  have E1 := Lib.hid (C5.n3b.later hw1)
  have Z1 := Lib.hid (FW.n3c.later hw1)
  have H1 := Lib.hid (H0.out.later bw1)
  have HB1 := Lib.hid bw1
  clear hw1 bw1 H0
  clear H1
  clear F1
  clear E1
  obtain ⟨z1_0, z1_1, z1_2, z1_3, z1_4, z1_5⟩ := Z1.out
  go_wp2
  refine bodyPost_ret (v := .tuple #[.agg #[.int .i64 0, .int .i64 0, .int .i64 0, .slice none 0 0], .int .i64 0, .int .i64 0, .int .i64 r]) ?_ rfl ⟨rfl, ?_⟩
  · simp [results, Tryz.results32, go_sem, z1_0, z1_1, z1_2, z1_3, z1_5]
  · have hb := HB1.out
    repeat (first | (with_reducible exact Below.refl _ _) | (with_reducible refine Below.setCell ?_ ?_ _) | (with_reducible refine Below.drew ?_) | (with_reducible refine Below.alloc ?_ ?_ _) | (with_reducible refine Below.trans ?_ (Below.mono hb ?_)) | (with_reducible exact hb.size) | omega | (simp <;> omega) | (simp <;> (have s := hb.size; omega)) | (have s0 := hb.size; (try simp at s0); (try simp); omega))
set_option maxHeartbeats 3200000 in
theorem audit_large (a b c p0 p1 p2 p3 p4 s : Int) (n mc : Nat) (mg ao : Option Addr) (cap : Nat) (L : List Q) (w : World) (hm : LiesO w ao L) (hn : L.length < n)
    (c1 : ∀ (W : World) (_ : LiesO W ao L), Calls Tryz.prog 63 #[.agg #[.int .i64 a, .int .i64 b, .int .i64 c, .slice ao L.length cap], .agg #[.int .i64 p0, .int .i64 p1, .int .i64 p2, .int .i64 p3, .int .i64 p4], .int .i64 s] W fun e w' => e = .returned (.int .i64 0) ∧ Below W.heap.size W w') : Calls Tryz.prog 32 #[.agg #[.int .i64 a, .int .i64 b, .int .i64 c, .slice ao L.length cap], .agg #[.int .i64 p0, .int .i64 p1, .int .i64 p2, .int .i64 p3, .int .i64 p4], .int .i64 s, .slice mg n mc] w fun e w' => e = .returned (.tuple #[.agg #[.int .i64 0, .int .i64 0, .int .i64 0, .slice none 0 0], .int .i64 0, .int .i64 0, .int .i64 3]) ∧ Below w.heap.size w w' := by
  have hn' : (n : Int) > (L.length : Int) := by omega
  have H0 := Lib.hid hm
  clear hm hn
  go_enter Tryz.func32, Tryz.ntmps32
  go_wp2_with (fail)
  refine (c1 _ (H0.out.later ba3)).mono ?_
  rintro e w1 ⟨rfl, hw1⟩
  have bw1 : Below w.heap.size w w1 := bel3 hw1
  have F1 := Lib.hid (FW.n3a.later hw1)
  have E1 := Lib.hid (C5.n3b.later hw1)
  have Z1 := Lib.hid (FW.n3c.later hw1)
  have H1 := Lib.hid (H0.out.later bw1)
  have HB1 := Lib.hid bw1
  clear hw1 bw1 H0
  clear H1
  clear E1
  obtain ⟨f1_0, f1_1, f1_2, f1_3, f1_4, f1_5⟩ := F1.out
  obtain ⟨z1_0, z1_1, z1_2, z1_3, z1_4, z1_5⟩ := Z1.out
  go_wp2
  refine bodyPost_ret (v := .tuple #[.agg #[.int .i64 0, .int .i64 0, .int .i64 0, .slice none 0 0], .int .i64 0, .int .i64 0, .int .i64 3]) ?_ rfl ⟨rfl, ?_⟩
  · simp [results, Tryz.results32, go_sem, z1_0, z1_1, z1_2, z1_3, z1_5]
  · have hb := HB1.out
    repeat (first | (with_reducible exact Below.refl _ _) | (with_reducible refine Below.setCell ?_ ?_ _) | (with_reducible refine Below.drew ?_) | (with_reducible refine Below.alloc ?_ ?_ _) | (with_reducible refine Below.trans ?_ (Below.mono hb ?_)) | (with_reducible exact hb.size) | omega | (simp <;> omega) | (simp <;> (have s := hb.size; omega)) | (have s0 := hb.size; (try simp at s0); (try simp); omega))
set_option maxHeartbeats 12800000 in
theorem audit_same (a b c p0 p1 p2 p3 p4 s q : Int) (n mc m bl off cap : Nat) (mg : Option Addr) (L T : List Q) (G O : List Int) (w : World) (hm : Lies w bl off L) (hst : StA w) (hg : LiesOI w mg G) (hGl : G.length = n * 4) (hOl : O.length = n * 4) (hn : n ≤ L.length) (hL : L.length ≤ 48) (hag : ∀ k, k < m → AgM G O k) (hmn : m = n)
    (c1 : ∀ (W : World) (_ : Lies W bl off L), Calls Tryz.prog 63 #[.agg #[.int .i64 a, .int .i64 b, .int .i64 c, .slice (some ⟨bl, off, none⟩) L.length cap], .agg #[.int .i64 p0, .int .i64 p1, .int .i64 p2, .int .i64 p3, .int .i64 p4], .int .i64 s] W fun e w' => e = .returned (.int .i64 0) ∧ Below W.heap.size W w')
    (c2 : ∀ (W : World) (_ : Lies W bl off L) (_ : StA W), Calls Tryz.prog 64 #[.agg #[.int .i64 a, .int .i64 b, .int .i64 c, .slice (some ⟨bl, off, none⟩) L.length cap], .agg #[.int .i64 p0, .int .i64 p1, .int .i64 p2, .int .i64 p3, .int .i64 p4], .int .i64 s, .int .i64 n] W fun e w' => (∃ (g gk : Nat) (mo : Option Addr) (mk : Nat), e = .returned (.tuple #[.agg #[.int .i64 a, .int .i64 b, .int .i64 c, .slice (some ⟨g, 0, none⟩) L.length gk], .int .i64 q, .slice mo n mk, .int .i64 0]) ∧ LBox w' g T ∧ W.heap.size ≤ g ∧ LiesOI w' mo O ∧ (∀ o f : Nat, mo = some ⟨o, f, none⟩ → W.heap.size ≤ o)) ∧ Below W.heap.size W w') : Calls Tryz.prog 32 #[.agg #[.int .i64 a, .int .i64 b, .int .i64 c, .slice (some ⟨bl, off, none⟩) L.length cap], .agg #[.int .i64 p0, .int .i64 p1, .int .i64 p2, .int .i64 p3, .int .i64 p4], .int .i64 s, .slice mg n mc] w fun e w' => (∃ g gk : Nat, e = .returned (.tuple #[.agg #[.int .i64 a, .int .i64 b, .int .i64 c, .slice (some ⟨g, 0, none⟩) L.length gk], .int .i64 q, .int .i64 0, .int .i64 0]) ∧ LBox w' g T) ∧ Below w.heap.size w w' := by
  have hn' : ¬ (n : Int) > (L.length : Int) := by omega
  have hmle : m ≤ n := by omega
  have G0 := Lib.hid hg
  have HGL := Lib.hid hGl
  have HOL := Lib.hid hOl
  have HAG := Lib.hid hag
  have H0 := Lib.hid hm
  have S0 := Lib.hid hst
  clear hm hg hGl hOl hag hst
  have kc := @Tail.cell_re
  go_enter Tryz.func32, Tryz.ntmps32
  go_wp2_with (fail)
  refine (c1 _ (H0.out.later ba3)).mono ?_
  rintro e w1 ⟨rfl, hw1⟩
  have bw1 : Below w.heap.size w w1 := bel3 hw1
  have F1 := Lib.hid (FW.n3a.later hw1)
  have E1 := Lib.hid (C5.n3b.later hw1)
  have Z1 := Lib.hid (FW.n3c.later hw1)
  have H1 := Lib.hid (H0.out.later bw1)
  have G1 := Lib.hid (G0.out.later bw1)
  have S1 := Lib.hid (S0.out.later bw1)
  have HB1 := Lib.hid bw1
  clear hw1 bw1 H0 G0 S0
  obtain ⟨f1_0, f1_1, f1_2, f1_3, f1_4, f1_5⟩ := F1.out
  obtain ⟨e1_0, e1_1, e1_2, e1_3, e1_4, e1_5, e1_6⟩ := E1.out
  go_wp2_with (fail)
  refine (c2 _ (H1.out) (S1.out)).mono ?_
  rintro e w2 ⟨⟨g, gk, mo, mk, rfl, hT, hge, hO, hmo⟩, hw2⟩
  have hgz := Z1.out.lt
  have hgg : w.heap.size + 1 + 1 < g := Nat.lt_of_lt_of_le hgz hge
  clear hgz hge hmo
  clear f1_0 f1_1 f1_2 f1_3 f1_4 f1_5 e1_0 e1_1 e1_2 e1_3 e1_4 e1_5 e1_6
  have bw2 : Below w1.heap.size w1 w2 := hw2
  have H2 := Lib.hid (H1.out.later bw2)
  have G2 := Lib.hid (G1.out.later bw2)
  have S2 := Lib.hid (S1.out.later bw2)
  have F2 := Lib.hid (F1.out.later bw2)
  have E2 := Lib.hid (E1.out.later bw2)
  have Z2 := Lib.hid (Z1.out.later bw2)
  have HB2 := Lib.hid (HB1.out.trans (bw2.mono HB1.out.size))
  have T2 := Lib.hid hT
  clear hT
  have O2 := Lib.hid hO
  clear hO
  clear hw2 bw2 H1 G1 S1 F1 E1 Z1 HB1
  clear H2
  clear F2
  clear E2
  clear S2
  have nx : Below w2.heap.size w2 (w2.alloc (.cells #[.int .i64 a, .int .i64 b, .int .i64 c, .slice (some ⟨g, 0, none⟩) L.length gk] 25)) := ba1
  have G3 := Lib.hid (G2.out.later nx)
  have Z3 := Lib.hid (Z2.out.later nx)
  have T3 := Lib.hid (T2.out.later nx)
  have O3 := Lib.hid (O2.out.later nx)
  have HB3 := Lib.hid (HB2.out.trans (nx.mono HB2.out.size))
  have P3 := Lib.hid (FW.n1 (w := w2) (x := a) (y := b) (z := c) (v := .slice (some ⟨g, 0, none⟩) L.length gk) (T := 25))
  clear nx HB2 G2 Z2 T2 O2
  go_wp2
  generalize w2.alloc (.cells #[.int .i64 a, .int .i64 b, .int .i64 c, .slice (some ⟨g, 0, none⟩) L.length gk] 25) = w3 at *
  generalize w2.heap.size = tb at *
  go_loopw [17, 18, 51] (fun _ _ q0 wr => ∃ j : Nat, j ≤ m ∧ q0 = .int .i64 j ∧ Below w3.heap.size w3 wr) (fun _ _ q0 _ => n - (intOf q0).toNat)
  case atStart => exact ⟨0, by omega, rfl, Below.refl _ _⟩
  case round =>
    obtain ⟨j, hj, rfl, hb⟩ := hrel
    by_cases hlt : j < m
    · have i1 : (j : Int) < (n : Int) := by omega
      have hbs := hb.size
      have hGne : G ≠ [] := fun e => by have := HGL.out; rw [e] at this; simp at this; omega
      have hOne : O ≠ [] := fun e => by have := HOL.out; rw [e] at this; simp at this; omega
      rcases G3.out.later hb with h | ⟨b1, o1, rfl, hg1⟩
      · exact absurd h hGne
      rcases O3.out.later hb with h | ⟨b2, o2, rfl, ho1⟩
      · exact absurd h hOne
      obtain ⟨x, y, z, t, ⟨l0, l1, l2, l3⟩, m0, m1, m2, m3⟩ := four_at hg1 j (by have := HGL.out; omega)
      obtain ⟨x', y', z', t', ⟨r0, r1, r2, r3⟩, n0, n1, n2, n3⟩ := four_at ho1 j (by have := HOL.out; omega)
      obtain rfl : x = x' := Option.some.inj (m0.symm.trans ((HAG.out j hlt 0 (by omega)).trans n0))
      obtain rfl : y = y' := Option.some.inj (m1.symm.trans ((HAG.out j hlt 1 (by omega)).trans n1))
      obtain rfl : z = z' := Option.some.inj (m2.symm.trans ((HAG.out j hlt 2 (by omega)).trans n2))
      obtain rfl : t = t' := Option.some.inj (m3.symm.trans ((HAG.out j hlt 3 (by omega)).trans n3))
      have lb1 := World.block_lt_of_cell? wr _ l0
      have lb2 := World.block_lt_of_cell? wr _ r0
      have qx := eqMv x y z t
      clear m0 m1 m2 m3 n0 n1 n2 n3 hg1 ho1 hGne hOne
      go_wp2
      have hba : Below wr.heap.size wr (wr.alloc (.cells #[.int .i64 x, .int .i64 y, .int .i64 z, .int .i64 t] 106)) := ba1
      have kc1 : ∀ (W : World) (o : Obj) (d : Nat) (os : Array Obj) (a : Addr), a.block ≤ W.heap.size → (Sort.grow (redrawn (W.alloc o) d) os).cell? a = (W.alloc o).cell? a := fun W o d os a h => Tail.cell_re (W.alloc o) d os a (Nat.lt_of_le_of_lt h (by simp))
      refine Tail.region_below (by kernel_rfl) (by kernel_rfl) ?_
      repeat (go_big_quiet_step (fail))
      refine wpQuiet_nil ?_
      intro z1 hz1
      clear l0 l1 l2 l3 r0 r1 r2 r3 lb1 lb2
      go_wp2
      exact ⟨⟨j + 1, by omega, by go_num, hb.trans ((bel1 hz1).mono hbs)⟩, by simp [intOf]; omega⟩
    · obtain rfl : j = n := by omega
      obtain ⟨z0, z1, z2, z3, zf, zl⟩ := Z3.out.later hb
      obtain ⟨t0, t1, t2, t3, tf, tl⟩ := P3.out.later hb
      have hbb := HB3.out.trans (hb.mono HB3.out.size)
      have GZ := grown_setCells (w.heap.size + 1 + 1) [.int .i64 a, .int .i64 b, .int .i64 c, .slice (some ⟨g, 0, none⟩) L.length gk] 0 wr
      have lY := Lib.hid ((T3.out.later hb).grown GZ (by simp; omega))
      have hbY := Lib.hid (hbb.grown GZ hbb.size (fun j hj => by cases hj; omega))
      clear GZ hbb hb
      go_wp2
      refine bodyPost_ret (v := .tuple #[.agg #[.int .i64 a, .int .i64 b, .int .i64 c, .slice (some ⟨g, 0, none⟩) L.length gk], .int .i64 q, .int .i64 0, .int .i64 0]) ?_ rfl ⟨⟨g, gk, rfl, lY.out⟩, hbY.out⟩
      simp [results, Tryz.results32, go_sem, z0, z1, z2, z3, zl]
set_option maxHeartbeats 12800000 in
theorem audit_diff (a b c p0 p1 p2 p3 p4 s q : Int) (n mc m bl off cap : Nat) (mg : Option Addr) (L T : List Q) (G O : List Int) (w : World) (hm : Lies w bl off L) (hst : StA w) (hg : LiesOI w mg G) (hGl : G.length = n * 4) (hOl : O.length = n * 4) (hn : n ≤ L.length) (hL : L.length ≤ 48) (hag : ∀ k, k < m → AgM G O k) (hmn : m < n) (hdf : ¬ AgM G O m)
    (c1 : ∀ (W : World) (_ : Lies W bl off L), Calls Tryz.prog 63 #[.agg #[.int .i64 a, .int .i64 b, .int .i64 c, .slice (some ⟨bl, off, none⟩) L.length cap], .agg #[.int .i64 p0, .int .i64 p1, .int .i64 p2, .int .i64 p3, .int .i64 p4], .int .i64 s] W fun e w' => e = .returned (.int .i64 0) ∧ Below W.heap.size W w')
    (c2 : ∀ (W : World) (_ : Lies W bl off L) (_ : StA W), Calls Tryz.prog 64 #[.agg #[.int .i64 a, .int .i64 b, .int .i64 c, .slice (some ⟨bl, off, none⟩) L.length cap], .agg #[.int .i64 p0, .int .i64 p1, .int .i64 p2, .int .i64 p3, .int .i64 p4], .int .i64 s, .int .i64 n] W fun e w' => (∃ (g gk : Nat) (mo : Option Addr) (mk : Nat), e = .returned (.tuple #[.agg #[.int .i64 a, .int .i64 b, .int .i64 c, .slice (some ⟨g, 0, none⟩) L.length gk], .int .i64 q, .slice mo n mk, .int .i64 0]) ∧ LBox w' g T ∧ W.heap.size ≤ g ∧ LiesOI w' mo O ∧ (∀ o f : Nat, mo = some ⟨o, f, none⟩ → W.heap.size ≤ o)) ∧ Below W.heap.size W w') : Calls Tryz.prog 32 #[.agg #[.int .i64 a, .int .i64 b, .int .i64 c, .slice (some ⟨bl, off, none⟩) L.length cap], .agg #[.int .i64 p0, .int .i64 p1, .int .i64 p2, .int .i64 p3, .int .i64 p4], .int .i64 s, .slice mg n mc] w fun e w' => e = .returned (.tuple #[.agg #[.int .i64 0, .int .i64 0, .int .i64 0, .slice none 0 0], .int .i64 0, .int .i64 m, .int .i64 9]) ∧ Below w.heap.size w w' := by
  have hn' : ¬ (n : Int) > (L.length : Int) := by omega
  have hmle : m ≤ n := by omega
  have G0 := Lib.hid hg
  have HGL := Lib.hid hGl
  have HOL := Lib.hid hOl
  have HAG := Lib.hid hag
  have HDF := Lib.hid hdf
  have H0 := Lib.hid hm
  have S0 := Lib.hid hst
  clear hm hg hGl hOl hag hst hdf
  have kc := @Tail.cell_re
  go_enter Tryz.func32, Tryz.ntmps32
  go_wp2_with (fail)
  refine (c1 _ (H0.out.later ba3)).mono ?_
  rintro e w1 ⟨rfl, hw1⟩
  have bw1 : Below w.heap.size w w1 := bel3 hw1
  have F1 := Lib.hid (FW.n3a.later hw1)
  have E1 := Lib.hid (C5.n3b.later hw1)
  have Z1 := Lib.hid (FW.n3c.later hw1)
  have H1 := Lib.hid (H0.out.later bw1)
  have G1 := Lib.hid (G0.out.later bw1)
  have S1 := Lib.hid (S0.out.later bw1)
  have HB1 := Lib.hid bw1
  clear hw1 bw1 H0 G0 S0
  obtain ⟨f1_0, f1_1, f1_2, f1_3, f1_4, f1_5⟩ := F1.out
  obtain ⟨e1_0, e1_1, e1_2, e1_3, e1_4, e1_5, e1_6⟩ := E1.out
  go_wp2_with (fail)
  refine (c2 _ (H1.out) (S1.out)).mono ?_
  rintro e w2 ⟨⟨g, gk, mo, mk, rfl, hT, hge, hO, hmo⟩, hw2⟩
  have hgz := Z1.out.lt
  have hgg : w.heap.size + 1 + 1 < g := Nat.lt_of_lt_of_le hgz hge
  clear hgz hge hmo
  clear f1_0 f1_1 f1_2 f1_3 f1_4 f1_5 e1_0 e1_1 e1_2 e1_3 e1_4 e1_5 e1_6
  have bw2 : Below w1.heap.size w1 w2 := hw2
  have H2 := Lib.hid (H1.out.later bw2)
  have G2 := Lib.hid (G1.out.later bw2)
  have S2 := Lib.hid (S1.out.later bw2)
  have F2 := Lib.hid (F1.out.later bw2)
  have E2 := Lib.hid (E1.out.later bw2)
  have Z2 := Lib.hid (Z1.out.later bw2)
  have HB2 := Lib.hid (HB1.out.trans (bw2.mono HB1.out.size))
  have T2 := Lib.hid hT
  clear hT
  have O2 := Lib.hid hO
  clear hO
  clear hw2 bw2 H1 G1 S1 F1 E1 Z1 HB1
  clear H2
  clear F2
  clear E2
  clear S2
  have nx : Below w2.heap.size w2 (w2.alloc (.cells #[.int .i64 a, .int .i64 b, .int .i64 c, .slice (some ⟨g, 0, none⟩) L.length gk] 25)) := ba1
  have G3 := Lib.hid (G2.out.later nx)
  have Z3 := Lib.hid (Z2.out.later nx)
  have T3 := Lib.hid (T2.out.later nx)
  have O3 := Lib.hid (O2.out.later nx)
  have HB3 := Lib.hid (HB2.out.trans (nx.mono HB2.out.size))
  have P3 := Lib.hid (FW.n1 (w := w2) (x := a) (y := b) (z := c) (v := .slice (some ⟨g, 0, none⟩) L.length gk) (T := 25))
  clear nx HB2 G2 Z2 T2 O2
  go_wp2
  generalize w2.alloc (.cells #[.int .i64 a, .int .i64 b, .int .i64 c, .slice (some ⟨g, 0, none⟩) L.length gk] 25) = w3 at *
  generalize w2.heap.size = tb at *
  go_loopw [17, 18, 51] (fun _ _ q0 wr => ∃ j : Nat, j ≤ m ∧ q0 = .int .i64 j ∧ Below w3.heap.size w3 wr) (fun _ _ q0 _ => n - (intOf q0).toNat)
  case atStart => exact ⟨0, by omega, rfl, Below.refl _ _⟩
  case round =>
    obtain ⟨j, hj, rfl, hb⟩ := hrel
    by_cases hlt : j < m
    · have i1 : (j : Int) < (n : Int) := by omega
      have hbs := hb.size
      have hGne : G ≠ [] := fun e => by have := HGL.out; rw [e] at this; simp at this; omega
      have hOne : O ≠ [] := fun e => by have := HOL.out; rw [e] at this; simp at this; omega
      rcases G3.out.later hb with h | ⟨b1, o1, rfl, hg1⟩
      · exact absurd h hGne
      rcases O3.out.later hb with h | ⟨b2, o2, rfl, ho1⟩
      · exact absurd h hOne
      obtain ⟨x, y, z, t, ⟨l0, l1, l2, l3⟩, m0, m1, m2, m3⟩ := four_at hg1 j (by have := HGL.out; omega)
      obtain ⟨x', y', z', t', ⟨r0, r1, r2, r3⟩, n0, n1, n2, n3⟩ := four_at ho1 j (by have := HOL.out; omega)
      obtain rfl : x = x' := Option.some.inj (m0.symm.trans ((HAG.out j hlt 0 (by omega)).trans n0))
      obtain rfl : y = y' := Option.some.inj (m1.symm.trans ((HAG.out j hlt 1 (by omega)).trans n1))
      obtain rfl : z = z' := Option.some.inj (m2.symm.trans ((HAG.out j hlt 2 (by omega)).trans n2))
      obtain rfl : t = t' := Option.some.inj (m3.symm.trans ((HAG.out j hlt 3 (by omega)).trans n3))
      have lb1 := World.block_lt_of_cell? wr _ l0
      have lb2 := World.block_lt_of_cell? wr _ r0
      have qx := eqMv x y z t
      clear m0 m1 m2 m3 n0 n1 n2 n3 hg1 ho1 hGne hOne
      go_wp2
      have hba : Below wr.heap.size wr (wr.alloc (.cells #[.int .i64 x, .int .i64 y, .int .i64 z, .int .i64 t] 106)) := ba1
      have kc1 : ∀ (W : World) (o : Obj) (d : Nat) (os : Array Obj) (a : Addr), a.block ≤ W.heap.size → (Sort.grow (redrawn (W.alloc o) d) os).cell? a = (W.alloc o).cell? a := fun W o d os a h => Tail.cell_re (W.alloc o) d os a (Nat.lt_of_le_of_lt h (by simp))
      refine Tail.region_below (by kernel_rfl) (by kernel_rfl) ?_
      repeat (go_big_quiet_step (fail))
      refine wpQuiet_nil ?_
      intro z1 hz1
      clear l0 l1 l2 l3 r0 r1 r2 r3 lb1 lb2
      go_wp2
      exact ⟨⟨j + 1, by omega, by go_num, hb.trans ((bel1 hz1).mono hbs)⟩, by simp [intOf]; omega⟩
    · obtain rfl : j = m := by omega
      have i1 : (j : Int) < (n : Int) := by omega
      have hbs := hb.size
      have hGne : G ≠ [] := fun e => by have := HGL.out; rw [e] at this; simp at this; omega
      have hOne : O ≠ [] := fun e => by have := HOL.out; rw [e] at this; simp at this; omega
      rcases G3.out.later hb with h | ⟨b1, o1, rfl, hg1⟩
      · exact absurd h hGne
      rcases O3.out.later hb with h | ⟨b2, o2, rfl, ho1⟩
      · exact absurd h hOne
      obtain ⟨x, y, z, t, ⟨l0, l1, l2, l3⟩, m0, m1, m2, m3⟩ := four_at hg1 j (by have := HGL.out; omega)
      obtain ⟨x', y', z', t', ⟨r0, r1, r2, r3⟩, n0, n1, n2, n3⟩ := four_at ho1 j (by have := HOL.out; omega)
      have hne : ¬ (x = x' ∧ y = y' ∧ z = z' ∧ t = t') := fun ⟨e0, e1, e2, e3⟩ => HDF.out (fun i hi => by
        have h4 : i = 0 ∨ i = 1 ∨ i = 2 ∨ i = 3 := by omega
        rcases h4 with rfl | rfl | rfl | rfl
        · exact m0.trans (e0 ▸ n0.symm)
        · exact m1.trans (e1 ▸ n1.symm)
        · exact m2.trans (e2 ▸ n2.symm)
        · exact m3.trans (e3 ▸ n3.symm))
      have lb1 := World.block_lt_of_cell? wr _ l0
      have lb2 := World.block_lt_of_cell? wr _ r0
      have qx := eqMvF x y z t x' y' z' t' hne
      clear m0 m1 m2 m3 n0 n1 n2 n3 hg1 ho1 hGne hOne hne
      go_wp2
      have kc1 : ∀ (W : World) (o : Obj) (d : Nat) (os : Array Obj) (a : Addr), a.block ≤ W.heap.size → (Sort.grow (redrawn (W.alloc o) d) os).cell? a = (W.alloc o).cell? a := fun W o d os a h => Tail.cell_re (W.alloc o) d os a (Nat.lt_of_le_of_lt h (by simp))
      refine Tail.region_below (by kernel_rfl) (by kernel_rfl) ?_
      repeat (go_big_quiet_step (fail))
      refine wpQuiet_nil ?_
      intro z1 hz1
      clear l0 l1 l2 l3 r0 r1 r2 r3 lb1 lb2
      have hb2 : Below w3.heap.size w3 z1 := hb.trans ((bel1 hz1).mono hbs)
      obtain ⟨z0, zz1, z2, z3, zf, zl⟩ := Z3.out.later hb2
      have hbb := HB3.out.trans (hb2.mono HB3.out.size)
      clear hz1
      go_wp2
      refine bodyPost_ret (v := .tuple #[.agg #[.int .i64 0, .int .i64 0, .int .i64 0, .slice none 0 0], .int .i64 0, .int .i64 j, .int .i64 9]) ?_ rfl ⟨rfl, ?_⟩
      · simp [results, Tryz.results32, go_sem, z0, zz1, z2, z3, zl]
      · repeat (first | (with_reducible exact Below.refl _ _) | (with_reducible refine Below.setCell ?_ ?_ _) | (with_reducible refine Below.drew ?_) | (with_reducible refine Below.alloc ?_ ?_ _) | (with_reducible refine Below.trans ?_ (Below.mono hbb ?_)) | (with_reducible exact hbb.size) | omega | (simp <;> omega) | (simp <;> (have s := hbb.size; omega)) | (have s0 := hbb.size; (try simp at s0); (try simp); omega))
set_option maxHeartbeats 3200000 in
theorem refAudit_bad (a b c p0 p1 p2 p3 p4 s r : Int) (n mc : Nat) (mg ao : Option Addr) (cap : Nat) (L : List Q) (w : World) (hm : LiesO w ao L) (hr : r ≠ 0)
    (c1 : ∀ (W : World) (_ : LiesO W ao L), Calls Tryz.prog 65 #[.agg #[.int .i64 a, .int .i64 b, .int .i64 c, .slice ao L.length cap], .agg #[.int .i64 p0, .int .i64 p1, .int .i64 p2, .int .i64 p3, .int .i64 p4], .int .i64 s] W fun e w' => e = .returned (.int .i64 r) ∧ Below W.heap.size W w') : Calls Tryz.prog 33 #[.agg #[.int .i64 a, .int .i64 b, .int .i64 c, .slice ao L.length cap], .agg #[.int .i64 p0, .int .i64 p1, .int .i64 p2, .int .i64 p3, .int .i64 p4], .int .i64 s, .slice mg n mc] w fun e w' => e = .returned (.tuple #[.agg #[.int .i64 0, .int .i64 0, .int .i64 0, .slice none 0 0], .int .i64 0, .int .i64 0, .int .i64 r]) ∧ Below w.heap.size w w' := by
  have h0' : (r != 0) = true := by simpa using hr
  have h0'' : (r == 0) = false := by simpa using hr
  have H0 := Lib.hid hm
  clear hm hr
  go_enter Tryz.func33, Tryz.ntmps33
  go_wp2_with (fail)
  refine (c1 _ (H0.out.later ba3)).mono ?_
  rintro e w1 ⟨rfl, hw1⟩
  have bw1 : Below w.heap.size w w1 := bel3 hw1
  have F1 := Lib.hid (FW.n3a.later hw1)
  have E1 := Lib.hid (C5.n3b.later hw1)
  have Z1 := Lib.hid (FW.n3c.later hw1)
  have H1 := Lib.hid (H0.out.later bw1)
  have HB1 := Lib.hid bw1
  clear hw1 bw1 H0
  clear H1
  clear F1
  clear E1
  obtain ⟨z1_0, z1_1, z1_2, z1_3, z1_4, z1_5⟩ := Z1.out
  go_wp2
  refine bodyPost_ret (v := .tuple #[.agg #[.int .i64 0, .int .i64 0, .int .i64 0, .slice none 0 0], .int .i64 0, .int .i64 0, .int .i64 r]) ?_ rfl ⟨rfl, ?_⟩
  · simp [results, Tryz.results33, go_sem, z1_0, z1_1, z1_2, z1_3, z1_5]
  · have hb := HB1.out
    repeat (first | (with_reducible exact Below.refl _ _) | (with_reducible refine Below.setCell ?_ ?_ _) | (with_reducible refine Below.drew ?_) | (with_reducible refine Below.alloc ?_ ?_ _) | (with_reducible refine Below.trans ?_ (Below.mono hb ?_)) | (with_reducible exact hb.size) | omega | (simp <;> omega) | (simp <;> (have s := hb.size; omega)) | (have s0 := hb.size; (try simp at s0); (try simp); omega))
set_option maxHeartbeats 3200000 in
theorem refAudit_large (a b c p0 p1 p2 p3 p4 s : Int) (n mc : Nat) (mg ao : Option Addr) (cap : Nat) (L : List Q) (w : World) (hm : LiesO w ao L) (hn : L.length < n)
    (c1 : ∀ (W : World) (_ : LiesO W ao L), Calls Tryz.prog 65 #[.agg #[.int .i64 a, .int .i64 b, .int .i64 c, .slice ao L.length cap], .agg #[.int .i64 p0, .int .i64 p1, .int .i64 p2, .int .i64 p3, .int .i64 p4], .int .i64 s] W fun e w' => e = .returned (.int .i64 0) ∧ Below W.heap.size W w') : Calls Tryz.prog 33 #[.agg #[.int .i64 a, .int .i64 b, .int .i64 c, .slice ao L.length cap], .agg #[.int .i64 p0, .int .i64 p1, .int .i64 p2, .int .i64 p3, .int .i64 p4], .int .i64 s, .slice mg n mc] w fun e w' => e = .returned (.tuple #[.agg #[.int .i64 0, .int .i64 0, .int .i64 0, .slice none 0 0], .int .i64 0, .int .i64 0, .int .i64 3]) ∧ Below w.heap.size w w' := by
  have hn' : (n : Int) > (L.length : Int) := by omega
  have H0 := Lib.hid hm
  clear hm hn
  go_enter Tryz.func33, Tryz.ntmps33
  go_wp2_with (fail)
  refine (c1 _ (H0.out.later ba3)).mono ?_
  rintro e w1 ⟨rfl, hw1⟩
  have bw1 : Below w.heap.size w w1 := bel3 hw1
  have F1 := Lib.hid (FW.n3a.later hw1)
  have E1 := Lib.hid (C5.n3b.later hw1)
  have Z1 := Lib.hid (FW.n3c.later hw1)
  have H1 := Lib.hid (H0.out.later bw1)
  have HB1 := Lib.hid bw1
  clear hw1 bw1 H0
  clear H1
  clear E1
  obtain ⟨f1_0, f1_1, f1_2, f1_3, f1_4, f1_5⟩ := F1.out
  obtain ⟨z1_0, z1_1, z1_2, z1_3, z1_4, z1_5⟩ := Z1.out
  go_wp2
  refine bodyPost_ret (v := .tuple #[.agg #[.int .i64 0, .int .i64 0, .int .i64 0, .slice none 0 0], .int .i64 0, .int .i64 0, .int .i64 3]) ?_ rfl ⟨rfl, ?_⟩
  · simp [results, Tryz.results33, go_sem, z1_0, z1_1, z1_2, z1_3, z1_5]
  · have hb := HB1.out
    repeat (first | (with_reducible exact Below.refl _ _) | (with_reducible refine Below.setCell ?_ ?_ _) | (with_reducible refine Below.drew ?_) | (with_reducible refine Below.alloc ?_ ?_ _) | (with_reducible refine Below.trans ?_ (Below.mono hb ?_)) | (with_reducible exact hb.size) | omega | (simp <;> omega) | (simp <;> (have s := hb.size; omega)) | (have s0 := hb.size; (try simp at s0); (try simp); omega))
set_option maxHeartbeats 12800000 in
theorem refAudit_same (a b c p0 p1 p2 p3 p4 s q : Int) (n mc m bl off cap : Nat) (mg : Option Addr) (L T : List Q) (G O : List Int) (w : World) (hm : Lies w bl off L) (hg : LiesOI w mg G) (hGl : G.length = n * 4) (hOl : O.length = n * 4) (hn : n ≤ L.length) (hL : L.length ≤ 48) (hag : ∀ k, k < m → AgM G O k) (hmn : m = n)
    (c1 : ∀ (W : World) (_ : Lies W bl off L), Calls Tryz.prog 65 #[.agg #[.int .i64 a, .int .i64 b, .int .i64 c, .slice (some ⟨bl, off, none⟩) L.length cap], .agg #[.int .i64 p0, .int .i64 p1, .int .i64 p2, .int .i64 p3, .int .i64 p4], .int .i64 s] W fun e w' => e = .returned (.int .i64 0) ∧ Below W.heap.size W w')
    (c2 : ∀ (W : World) (_ : Lies W bl off L), Calls Tryz.prog 66 #[.agg #[.int .i64 a, .int .i64 b, .int .i64 c, .slice (some ⟨bl, off, none⟩) L.length cap], .agg #[.int .i64 p0, .int .i64 p1, .int .i64 p2, .int .i64 p3, .int .i64 p4], .int .i64 s, .int .i64 n] W fun e w' => (∃ (g gk : Nat) (mo : Option Addr) (mk : Nat), e = .returned (.tuple #[.agg #[.int .i64 a, .int .i64 b, .int .i64 c, .slice (some ⟨g, 0, none⟩) L.length gk], .int .i64 q, .slice mo n mk]) ∧ LBox w' g T ∧ W.heap.size ≤ g ∧ LiesOI w' mo O ∧ (∀ o f : Nat, mo = some ⟨o, f, none⟩ → W.heap.size ≤ o)) ∧ Below W.heap.size W w') : Calls Tryz.prog 33 #[.agg #[.int .i64 a, .int .i64 b, .int .i64 c, .slice (some ⟨bl, off, none⟩) L.length cap], .agg #[.int .i64 p0, .int .i64 p1, .int .i64 p2, .int .i64 p3, .int .i64 p4], .int .i64 s, .slice mg n mc] w fun e w' => (∃ g gk : Nat, e = .returned (.tuple #[.agg #[.int .i64 a, .int .i64 b, .int .i64 c, .slice (some ⟨g, 0, none⟩) L.length gk], .int .i64 q, .int .i64 0, .int .i64 0]) ∧ LBox w' g T) ∧ Below w.heap.size w w' := by
  have hn' : ¬ (n : Int) > (L.length : Int) := by omega
  have hmle : m ≤ n := by omega
  have G0 := Lib.hid hg
  have HGL := Lib.hid hGl
  have HOL := Lib.hid hOl
  have HAG := Lib.hid hag
  have H0 := Lib.hid hm
  clear hm hg hGl hOl hag
  have kc := @Tail.cell_re
  go_enter Tryz.func33, Tryz.ntmps33
  go_wp2_with (fail)
  refine (c1 _ (H0.out.later ba3)).mono ?_
  rintro e w1 ⟨rfl, hw1⟩
  have bw1 : Below w.heap.size w w1 := bel3 hw1
  have F1 := Lib.hid (FW.n3a.later hw1)
  have E1 := Lib.hid (C5.n3b.later hw1)
  have Z1 := Lib.hid (FW.n3c.later hw1)
  have H1 := Lib.hid (H0.out.later bw1)
  have G1 := Lib.hid (G0.out.later bw1)
  have HB1 := Lib.hid bw1
  clear hw1 bw1 H0 G0
  obtain ⟨f1_0, f1_1, f1_2, f1_3, f1_4, f1_5⟩ := F1.out
  obtain ⟨e1_0, e1_1, e1_2, e1_3, e1_4, e1_5, e1_6⟩ := E1.out
  go_wp2_with (fail)
  refine (c2 _ (H1.out)).mono ?_
  rintro e w2 ⟨⟨g, gk, mo, mk, rfl, hT, hge, hO, hmo⟩, hw2⟩
  have hgz := Z1.out.lt
  have hgg : w.heap.size + 1 + 1 < g := Nat.lt_of_lt_of_le hgz hge
  clear hgz hge hmo
  clear f1_0 f1_1 f1_2 f1_3 f1_4 f1_5 e1_0 e1_1 e1_2 e1_3 e1_4 e1_5 e1_6
  have bw2 : Below w1.heap.size w1 w2 := hw2
  have H2 := Lib.hid (H1.out.later bw2)
  have G2 := Lib.hid (G1.out.later bw2)
  have F2 := Lib.hid (F1.out.later bw2)
  have E2 := Lib.hid (E1.out.later bw2)
  have Z2 := Lib.hid (Z1.out.later bw2)
  have HB2 := Lib.hid (HB1.out.trans (bw2.mono HB1.out.size))
  have T2 := Lib.hid hT
  clear hT
  have O2 := Lib.hid hO
  clear hO
  clear hw2 bw2 H1 G1 F1 E1 Z1 HB1
  clear H2
  clear F2
  clear E2
  have nx : Below w2.heap.size w2 (w2.alloc (.cells #[.int .i64 a, .int .i64 b, .int .i64 c, .slice (some ⟨g, 0, none⟩) L.length gk] 25)) := ba1
  have G3 := Lib.hid (G2.out.later nx)
  have Z3 := Lib.hid (Z2.out.later nx)
  have T3 := Lib.hid (T2.out.later nx)
  have O3 := Lib.hid (O2.out.later nx)
  have HB3 := Lib.hid (HB2.out.trans (nx.mono HB2.out.size))
  have P3 := Lib.hid (FW.n1 (w := w2) (x := a) (y := b) (z := c) (v := .slice (some ⟨g, 0, none⟩) L.length gk) (T := 25))
  clear nx HB2 G2 Z2 T2 O2
  go_wp2
  generalize w2.alloc (.cells #[.int .i64 a, .int .i64 b, .int .i64 c, .slice (some ⟨g, 0, none⟩) L.length gk] 25) = w3 at *
  generalize w2.heap.size = tb at *
  go_loopw [16] (fun q0 wr => ∃ j : Nat, j ≤ m ∧ q0 = .int .i64 j ∧ Below w3.heap.size w3 wr) (fun q0 _ => n - (intOf q0).toNat)
  case atStart => exact ⟨0, by omega, rfl, Below.refl _ _⟩
  case round =>
    obtain ⟨j, hj, rfl, hb⟩ := hrel
    by_cases hlt : j < m
    · have i1 : (j : Int) < (n : Int) := by omega
      have hbs := hb.size
      have hGne : G ≠ [] := fun e => by have := HGL.out; rw [e] at this; simp at this; omega
      have hOne : O ≠ [] := fun e => by have := HOL.out; rw [e] at this; simp at this; omega
      rcases G3.out.later hb with h | ⟨b1, o1, rfl, hg1⟩
      · exact absurd h hGne
      rcases O3.out.later hb with h | ⟨b2, o2, rfl, ho1⟩
      · exact absurd h hOne
      obtain ⟨x, y, z, t, ⟨l0, l1, l2, l3⟩, m0, m1, m2, m3⟩ := four_at hg1 j (by have := HGL.out; omega)
      obtain ⟨x', y', z', t', ⟨r0, r1, r2, r3⟩, n0, n1, n2, n3⟩ := four_at ho1 j (by have := HOL.out; omega)
      obtain rfl : x = x' := Option.some.inj (m0.symm.trans ((HAG.out j hlt 0 (by omega)).trans n0))
      obtain rfl : y = y' := Option.some.inj (m1.symm.trans ((HAG.out j hlt 1 (by omega)).trans n1))
      obtain rfl : z = z' := Option.some.inj (m2.symm.trans ((HAG.out j hlt 2 (by omega)).trans n2))
      obtain rfl : t = t' := Option.some.inj (m3.symm.trans ((HAG.out j hlt 3 (by omega)).trans n3))
      have lb1 := World.block_lt_of_cell? wr _ l0
      have lb2 := World.block_lt_of_cell? wr _ r0
      have qx := eqMv x y z t
      clear m0 m1 m2 m3 n0 n1 n2 n3 hg1 ho1 hGne hOne
      go_wp2
      refine Tail.region_below (by kernel_rfl) (by kernel_rfl) ?_
      repeat (go_big_quiet_step (fail))
      refine wpQuiet_nil ?_
      intro z1 hz1
      clear l0 l1 l2 l3 r0 r1 r2 r3 lb1 lb2
      go_wp2
      exact ⟨⟨j + 1, by omega, by go_num, hb.trans (hz1.mono hbs)⟩, by simp [intOf]; omega⟩
    · obtain rfl : j = n := by omega
      obtain ⟨z0, z1, z2, z3, zf, zl⟩ := Z3.out.later hb
      obtain ⟨t0, t1, t2, t3, tf, tl⟩ := P3.out.later hb
      have hbb := HB3.out.trans (hb.mono HB3.out.size)
      have GZ := grown_setCells (w.heap.size + 1 + 1) [.int .i64 a, .int .i64 b, .int .i64 c, .slice (some ⟨g, 0, none⟩) L.length gk] 0 wr
      have lY := Lib.hid ((T3.out.later hb).grown GZ (by simp; omega))
      have hbY := Lib.hid (hbb.grown GZ hbb.size (fun j hj => by cases hj; omega))
      clear GZ hbb hb
      go_wp2
      refine bodyPost_ret (v := .tuple #[.agg #[.int .i64 a, .int .i64 b, .int .i64 c, .slice (some ⟨g, 0, none⟩) L.length gk], .int .i64 q, .int .i64 0, .int .i64 0]) ?_ rfl ⟨⟨g, gk, rfl, lY.out⟩, hbY.out⟩
      simp [results, Tryz.results33, go_sem, z0, z1, z2, z3, zl]
set_option maxHeartbeats 12800000 in
theorem refAudit_diff (a b c p0 p1 p2 p3 p4 s q : Int) (n mc m bl off cap : Nat) (mg : Option Addr) (L T : List Q) (G O : List Int) (w : World) (hm : Lies w bl off L) (hg : LiesOI w mg G) (hGl : G.length = n * 4) (hOl : O.length = n * 4) (hn : n ≤ L.length) (hL : L.length ≤ 48) (hag : ∀ k, k < m → AgM G O k) (hmn : m < n) (hdf : ¬ AgM G O m)
    (c1 : ∀ (W : World) (_ : Lies W bl off L), Calls Tryz.prog 65 #[.agg #[.int .i64 a, .int .i64 b, .int .i64 c, .slice (some ⟨bl, off, none⟩) L.length cap], .agg #[.int .i64 p0, .int .i64 p1, .int .i64 p2, .int .i64 p3, .int .i64 p4], .int .i64 s] W fun e w' => e = .returned (.int .i64 0) ∧ Below W.heap.size W w')
    (c2 : ∀ (W : World) (_ : Lies W bl off L), Calls Tryz.prog 66 #[.agg #[.int .i64 a, .int .i64 b, .int .i64 c, .slice (some ⟨bl, off, none⟩) L.length cap], .agg #[.int .i64 p0, .int .i64 p1, .int .i64 p2, .int .i64 p3, .int .i64 p4], .int .i64 s, .int .i64 n] W fun e w' => (∃ (g gk : Nat) (mo : Option Addr) (mk : Nat), e = .returned (.tuple #[.agg #[.int .i64 a, .int .i64 b, .int .i64 c, .slice (some ⟨g, 0, none⟩) L.length gk], .int .i64 q, .slice mo n mk]) ∧ LBox w' g T ∧ W.heap.size ≤ g ∧ LiesOI w' mo O ∧ (∀ o f : Nat, mo = some ⟨o, f, none⟩ → W.heap.size ≤ o)) ∧ Below W.heap.size W w') : Calls Tryz.prog 33 #[.agg #[.int .i64 a, .int .i64 b, .int .i64 c, .slice (some ⟨bl, off, none⟩) L.length cap], .agg #[.int .i64 p0, .int .i64 p1, .int .i64 p2, .int .i64 p3, .int .i64 p4], .int .i64 s, .slice mg n mc] w fun e w' => e = .returned (.tuple #[.agg #[.int .i64 0, .int .i64 0, .int .i64 0, .slice none 0 0], .int .i64 0, .int .i64 m, .int .i64 9]) ∧ Below w.heap.size w w' := by
  have hn' : ¬ (n : Int) > (L.length : Int) := by omega
  have hmle : m ≤ n := by omega
  have G0 := Lib.hid hg
  have HGL := Lib.hid hGl
  have HOL := Lib.hid hOl
  have HAG := Lib.hid hag
  have HDF := Lib.hid hdf
  have H0 := Lib.hid hm
  clear hm hg hGl hOl hag hdf
  have kc := @Tail.cell_re
  go_enter Tryz.func33, Tryz.ntmps33
  go_wp2_with (fail)
  refine (c1 _ (H0.out.later ba3)).mono ?_
  rintro e w1 ⟨rfl, hw1⟩
  have bw1 : Below w.heap.size w w1 := bel3 hw1
  have F1 := Lib.hid (FW.n3a.later hw1)
  have E1 := Lib.hid (C5.n3b.later hw1)
  have Z1 := Lib.hid (FW.n3c.later hw1)
  have H1 := Lib.hid (H0.out.later bw1)
  have G1 := Lib.hid (G0.out.later bw1)
  have HB1 := Lib.hid bw1
  clear hw1 bw1 H0 G0
  obtain ⟨f1_0, f1_1, f1_2, f1_3, f1_4, f1_5⟩ := F1.out
  obtain ⟨e1_0, e1_1, e1_2, e1_3, e1_4, e1_5, e1_6⟩ := E1.out
  go_wp2_with (fail)
  refine (c2 _ (H1.out)).mono ?_
  rintro e w2 ⟨⟨g, gk, mo, mk, rfl, hT, hge, hO, hmo⟩, hw2⟩
  have hgz := Z1.out.lt
  have hgg : w.heap.size + 1 + 1 < g := Nat.lt_of_lt_of_le hgz hge
  clear hgz hge hmo
  clear f1_0 f1_1 f1_2 f1_3 f1_4 f1_5 e1_0 e1_1 e1_2 e1_3 e1_4 e1_5 e1_6
  have bw2 : Below w1.heap.size w1 w2 := hw2
  have H2 := Lib.hid (H1.out.later bw2)
  have G2 := Lib.hid (G1.out.later bw2)
  have F2 := Lib.hid (F1.out.later bw2)
  have E2 := Lib.hid (E1.out.later bw2)
  have Z2 := Lib.hid (Z1.out.later bw2)
  have HB2 := Lib.hid (HB1.out.trans (bw2.mono HB1.out.size))
  have T2 := Lib.hid hT
  clear hT
  have O2 := Lib.hid hO
  clear hO
  clear hw2 bw2 H1 G1 F1 E1 Z1 HB1
  clear H2
  clear F2
  clear E2
  have nx : Below w2.heap.size w2 (w2.alloc (.cells #[.int .i64 a, .int .i64 b, .int .i64 c, .slice (some ⟨g, 0, none⟩) L.length gk] 25)) := ba1
  have G3 := Lib.hid (G2.out.later nx)
  have Z3 := Lib.hid (Z2.out.later nx)
  have T3 := Lib.hid (T2.out.later nx)
  have O3 := Lib.hid (O2.out.later nx)
  have HB3 := Lib.hid (HB2.out.trans (nx.mono HB2.out.size))
  have P3 := Lib.hid (FW.n1 (w := w2) (x := a) (y := b) (z := c) (v := .slice (some ⟨g, 0, none⟩) L.length gk) (T := 25))
  clear nx HB2 G2 Z2 T2 O2
  go_wp2
  generalize w2.alloc (.cells #[.int .i64 a, .int .i64 b, .int .i64 c, .slice (some ⟨g, 0, none⟩) L.length gk] 25) = w3 at *
  generalize w2.heap.size = tb at *
  go_loopw [16] (fun q0 wr => ∃ j : Nat, j ≤ m ∧ q0 = .int .i64 j ∧ Below w3.heap.size w3 wr) (fun q0 _ => n - (intOf q0).toNat)
  case atStart => exact ⟨0, by omega, rfl, Below.refl _ _⟩
  case round =>
    obtain ⟨j, hj, rfl, hb⟩ := hrel
    by_cases hlt : j < m
    · have i1 : (j : Int) < (n : Int) := by omega
      have hbs := hb.size
      have hGne : G ≠ [] := fun e => by have := HGL.out; rw [e] at this; simp at this; omega
      have hOne : O ≠ [] := fun e => by have := HOL.out; rw [e] at this; simp at this; omega
      rcases G3.out.later hb with h | ⟨b1, o1, rfl, hg1⟩
      · exact absurd h hGne
      rcases O3.out.later hb with h | ⟨b2, o2, rfl, ho1⟩
      · exact absurd h hOne
      obtain ⟨x, y, z, t, ⟨l0, l1, l2, l3⟩, m0, m1, m2, m3⟩ := four_at hg1 j (by have := HGL.out; omega)
      obtain ⟨x', y', z', t', ⟨r0, r1, r2, r3⟩, n0, n1, n2, n3⟩ := four_at ho1 j (by have := HOL.out; omega)
      obtain rfl : x = x' := Option.some.inj (m0.symm.trans ((HAG.out j hlt 0 (by omega)).trans n0))
      obtain rfl : y = y' := Option.some.inj (m1.symm.trans ((HAG.out j hlt 1 (by omega)).trans n1))
      obtain rfl : z = z' := Option.some.inj (m2.symm.trans ((HAG.out j hlt 2 (by omega)).trans n2))
      obtain rfl : t = t' := Option.some.inj (m3.symm.trans ((HAG.out j hlt 3 (by omega)).trans n3))
      have lb1 := World.block_lt_of_cell? wr _ l0
      have lb2 := World.block_lt_of_cell? wr _ r0
      have qx := eqMv x y z t
      clear m0 m1 m2 m3 n0 n1 n2 n3 hg1 ho1 hGne hOne
      go_wp2
      refine Tail.region_below (by kernel_rfl) (by kernel_rfl) ?_
      repeat (go_big_quiet_step (fail))
      refine wpQuiet_nil ?_
      intro z1 hz1
      clear l0 l1 l2 l3 r0 r1 r2 r3 lb1 lb2
      go_wp2
      exact ⟨⟨j + 1, by omega, by go_num, hb.trans (hz1.mono hbs)⟩, by simp [intOf]; omega⟩
    · obtain rfl : j = m := by omega
      have i1 : (j : Int) < (n : Int) := by omega
      have hbs := hb.size
      have hGne : G ≠ [] := fun e => by have := HGL.out; rw [e] at this; simp at this; omega
      have hOne : O ≠ [] := fun e => by have := HOL.out; rw [e] at this; simp at this; omega
      rcases G3.out.later hb with h | ⟨b1, o1, rfl, hg1⟩
      · exact absurd h hGne
      rcases O3.out.later hb with h | ⟨b2, o2, rfl, ho1⟩
      · exact absurd h hOne
      obtain ⟨x, y, z, t, ⟨l0, l1, l2, l3⟩, m0, m1, m2, m3⟩ := four_at hg1 j (by have := HGL.out; omega)
      obtain ⟨x', y', z', t', ⟨r0, r1, r2, r3⟩, n0, n1, n2, n3⟩ := four_at ho1 j (by have := HOL.out; omega)
      have hne : ¬ (x = x' ∧ y = y' ∧ z = z' ∧ t = t') := fun ⟨e0, e1, e2, e3⟩ => HDF.out (fun i hi => by
        have h4 : i = 0 ∨ i = 1 ∨ i = 2 ∨ i = 3 := by omega
        rcases h4 with rfl | rfl | rfl | rfl
        · exact m0.trans (e0 ▸ n0.symm)
        · exact m1.trans (e1 ▸ n1.symm)
        · exact m2.trans (e2 ▸ n2.symm)
        · exact m3.trans (e3 ▸ n3.symm))
      have lb1 := World.block_lt_of_cell? wr _ l0
      have lb2 := World.block_lt_of_cell? wr _ r0
      have qx := eqMvF x y z t x' y' z' t' hne
      clear m0 m1 m2 m3 n0 n1 n2 n3 hg1 ho1 hGne hOne hne
      go_wp2
      refine Tail.region_below (by kernel_rfl) (by kernel_rfl) ?_
      repeat (go_big_quiet_step (fail))
      refine wpQuiet_nil ?_
      intro z1 hz1
      clear l0 l1 l2 l3 r0 r1 r2 r3 lb1 lb2
      have hb2 : Below w3.heap.size w3 z1 := hb.trans (hz1.mono hbs)
      obtain ⟨z0, zz1, z2, z3, zf, zl⟩ := Z3.out.later hb2
      have hbb := HB3.out.trans (hb2.mono HB3.out.size)
      clear hz1
      go_wp2
      refine bodyPost_ret (v := .tuple #[.agg #[.int .i64 0, .int .i64 0, .int .i64 0, .slice none 0 0], .int .i64 0, .int .i64 j, .int .i64 9]) ?_ rfl ⟨rfl, ?_⟩
      · simp [results, Tryz.results33, go_sem, z0, zz1, z2, z3, zl]
      · repeat (first | (with_reducible exact Below.refl _ _) | (with_reducible refine Below.setCell ?_ ?_ _) | (with_reducible refine Below.drew ?_) | (with_reducible refine Below.alloc ?_ ?_ _) | (with_reducible refine Below.trans ?_ (Below.mono hbb ?_)) | (with_reducible exact hbb.size) | omega | (simp <;> omega) | (simp <;> (have s := hbb.size; omega)) | (have s0 := hbb.size; (try simp at s0); (try simp); omega))
end Go.Proofs.YtpfhjdmgkckjfaaGreatDoor
