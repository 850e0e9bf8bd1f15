/- Vectors divided and rounded, as the solver makes them.
Conditions: the lists lie in memory as it is written at each theorem; the entries are bounded. -/
import Derived.Test.YtojmagooapjohaaFermA
import Derived.Test.YtojmagooapjohaaSxM
namespace Go.Proofs.Ytojmagooapjohaa
set_option linter.unusedVariables false
set_option linter.unusedSimpArgs false
set_option maxRecDepth 1000000
open Go.RowKit
open Um Tm Fm

/-- the first m values by g, zeros behind -/
def mpK (g : Sp → Sp) (M : List Sp) (m : Nat) : List Sp := tab M.length (fun s => if s < m then g (at0 M s) else zs)
theorem mpK_len (g : Sp → Sp) (M : List Sp) (m : Nat) : (mpK g M m).length = M.length := tab_len _ _
theorem mpK_zero (g : Sp → Sp) (M : List Sp) : mpK g M 0 = List.replicate M.length zs := by
  refine List.ext_getElem? fun i => ?_
  by_cases hi : i < M.length
  · rw [mpK, tab_at _ hi, if_neg (by omega), List.getElem?_replicate, if_pos hi]
  · rw [List.getElem?_eq_none (by rw [mpK_len]; omega), List.getElem?_eq_none (by simp; omega)]
theorem mpK_end (g : Sp → Sp) (M : List Sp) : mpK g M M.length = tab M.length (fun s => g (at0 M s)) := tab_congr fun s hs => if_pos hs
theorem mpK_set (g : Sp → Sp) (M : List Sp) {m : Nat} : (mpK g M m).set m (g (at0 M m)) = mpK g M (m + 1) := by
  unfold mpK
  rw [tab_set]
  refine tab_congr fun s _ => ?_
  by_cases h1 : s = m
  · subst h1; rw [if_pos rfl, if_pos (by omega)]
  · rw [if_neg h1]
    by_cases h2 : s < m
    · rw [if_pos h2, if_pos (by omega)]
    · rw [if_neg h2, if_neg (by omega)]
theorem mpK_at (g : Sp → Sp) (M : List Sp) {m : Nat} (h : m < M.length) : (mpK g M m)[m]? = some zs := by
  unfold mpK
  rw [tab_at _ h, if_neg (by omega)]
theorem quo_rng {x D : Int} (h : -9000000000000000000 ≤ x ∧ x ≤ 9000000000000000000) (hD : 0 < D) : -9000000000000000000 ≤ x.tdiv D ∧ x.tdiv D ≤ 9000000000000000000 := by
  have key : ∀ y : Int, 0 ≤ y → y ≤ 9000000000000000000 → 0 ≤ y.tdiv D ∧ y.tdiv D ≤ 9000000000000000000 := fun y h0 h1 => by
    rw [Int.tdiv_eq_ediv_of_nonneg h0]
    exact ⟨Int.ediv_nonneg h0 (by omega), Int.le_trans (Int.ediv_le_self _ h0) h1⟩
  by_cases h0 : 0 ≤ x
  · have := key x h0 h.2; omega
  · have := key (-x) (by omega) (by omega)
    rw [Int.neg_tdiv] at this
    omega
theorem quo_in {x D : Int} (hD : 0 < D) (h : -9000000000000000000 ≤ x ∧ x ≤ 9000000000000000000) : IntKind.i64.wrap (x.tdiv D) = x.tdiv D := by
  have := quo_rng h hD
  generalize x.tdiv D = y at *
  rw [IntKind.wrap_i64]; omega
theorem quo_inB {x D : Int} (hD : 0 < D) (h : -9000000000000000000 ≤ x ∧ x ≤ 9000000000000000000) : wrap64 (x.tdiv D) = x.tdiv D := by
  have := quo_rng h hD
  exact w_in (by omega) (by omega)
theorem rd_in {x : Int} (h : -4611686018427387904 ≤ x ∧ x ≤ 4611686018427387904) : IntKind.i64.wrap (x + 32768) = x + 32768 := by rw [IntKind.wrap_i64]; omega
theorem rd_inB {x : Int} (h : -4611686018427387904 ≤ x ∧ x ≤ 4611686018427387904) : wrap64 (x + 32768) = x + 32768 := w_in (by omega) (by omega)
set_option maxHeartbeats 6400000 in
theorem quotient_any (D : Int) (b off pc : Nat) (M : List Sp) (w : World) (hM : LiesI w b off (fl M)) (hp : 0 < M.length) (hlen : M.length ≤ 1000000) (hD : 0 < D) (hb : ∀ s, s < M.length → Bd 9000000000000000000 (at0 M s)) : Calls Try.prog 98 #[.slice (some ⟨b, off, none⟩) M.length pc, .int .i64 D] w fun e w' => RetS w.heap.size (tab M.length (fun s => (quS D) (at0 M s))) e w' ∧ Below w.heap.size w w' := by
  have HM := Lib.hid hM
  have HE := Lib.hid (mpK_end (quS D) M)
  have HL := Lib.hid (show (tab M.length (fun s => (quS D) (at0 M s))).length = M.length from tab_len _ _)
  have HBd := Lib.hid hb
  have mk := fun (W : World) => makeS W M.length M.length rfl hlen
  have hlt := fl_lt hM hp
  have hb0 : Below w.heap.size w (w.alloc (.cells (madeCells sz.toArray (M.length * 4)) 95)) := by repeat (first | (with_reducible exact Below.refl _ _) | (with_reducible refine Below.setCell ?_ ?_ _) | (with_reducible refine Below.drew ?_) | (with_reducible refine Below.alloc ?_ ?_ _) | omega | (simp <;> omega))
  have hA : IBox (w.alloc (.cells (madeCells sz.toArray (M.length * 4)) 95)) w.heap.size (fl (mpK (quS D) M 0)) := by
    rw [mpK_zero]
    exact IBox.madeS (T := 95) (heap_alloc_new _ _) (by simp)
  have HA := Lib.hid hA
  have HB0 := Lib.hid hb0
  have HHS := Lib.hid (show w.heap.size = w.heap.size from rfl)
  have hd0 : ¬ D = 0 := by omega
  have HD := Lib.hid hD
  clear hD
  clear hM hb0 hA hb
  have kc := @Tail.cell_re
  have kc1 : ∀ (W : World) (o : Obj) (d : Nat) (os : Array Obj) (a : Addr), a.block ≤ W.heap.size → (Sort.grow (redrawn (W.alloc o) d) os).cell? a = (W.alloc o).cell? a := fun W o d os a h => Tail.cell_re (W.alloc o) d os a (Nat.lt_of_le_of_lt h (by simp))
  go_enter Try.func98, Try.ntmps98
  go_wp2
  generalize w.alloc (.cells (madeCells sz.toArray (M.length * 4)) 95) = Wa at *
  go_loopw [6, 7, 8, 9, 15] (fun _ _ _ _ q wr => ∃ m : Nat, m ≤ M.length ∧ q = .int .i64 m ∧ Hid (IBox wr w.heap.size (fl (mpK (quS D) M m))) ∧ Hid (Below w.heap.size w wr)) (fun _ _ _ _ q _ => M.length - (intOf q).toNat)
  case atStart => exact ⟨0, by omega, rfl, HA, HB0⟩
  case round =>
    obtain ⟨m, hm, rfl, hbox, hgr⟩ := hrel
    by_cases hlt2 : m < M.length
    · have i1 : (m : Int) < (M.length : Int) := by omega
      have hpl : LiesI wr b off (fl M) := HM.out.later hgr.out
      have hpg : b < w.heap.size := hlt
      obtain ⟨x0, x1, x2, x3⟩ := four_at hpl (List.getElem?_eq_getElem hlt2)
      have hlw := World.block_lt_of_cell? _ _ x0
      have hgw := hbox.out.lt
      obtain ⟨q0, q1, q2, q3⟩ := fl_four (mpK_at (quS D) M hlt2)
      have hs := mpK_set (quS D) M (m := m)
      have e0 : at0 M m = M[m] := at0_of (List.getElem?_eq_getElem hlt2)
      have hbd := HBd.out m hlt2
      rw [e0] at hs hbd
      have hll : m * 4 + 3 < (fl (mpK (quS D) M m)).length := fl_get_len (by rw [mpK_len]; exact hlt2)
      generalize M[m] = x at *
      have hfs := fl_set (mpK (quS D) M m) m ((quS D) x)
      rw [hs] at hfs
      have HF := Lib.hid hfs
      have s0 := Lib.hid q0
      have s1 := Lib.hid (set_get_ne (v := ((quS D) x).a) q1 (by omega : m * 4 ≠ m * 4 + 1))
      have s2 := Lib.hid (set_get_ne (v := ((quS D) x).b) (set_get_ne (v := ((quS D) x).a) q2 (by omega : m * 4 ≠ m * 4 + 2)) (by omega : m * 4 + 1 ≠ m * 4 + 2))
      have s3 := Lib.hid (set_get_ne (v := ((quS D) x).c) (set_get_ne (v := ((quS D) x).b) (set_get_ne (v := ((quS D) x).a) q3 (by omega : m * 4 ≠ m * 4 + 3)) (by omega : m * 4 + 1 ≠ m * 4 + 3)) (by omega : m * 4 + 2 ≠ m * 4 + 3))
      have l0 := Lib.hid (show m * 4 < (fl (mpK (quS D) M m)).length by omega)
      have l1 := Lib.hid (show m * 4 + 1 < ((fl (mpK (quS D) M m)).set (m * 4) ((quS D) x).a).length by simp only [List.length_set]; omega)
      have l2 := Lib.hid (show m * 4 + 2 < (((fl (mpK (quS D) M m)).set (m * 4) ((quS D) x).a).set (m * 4 + 1) ((quS D) x).b).length by simp only [List.length_set]; omega)
      have l3 := Lib.hid (show m * 4 + 3 < ((((fl (mpK (quS D) M m)).set (m * 4) ((quS D) x).a).set (m * 4 + 1) ((quS D) x).b).set (m * 4 + 2) ((quS D) x).c).length by simp only [List.length_set]; omega)
      obtain ⟨bd0, bd1, bd2, bd3⟩ := hbd
      have e0 : IntKind.i64.wrap (x.a.tdiv D) = (quS D x).a := quo_in HD.out bd0
      have f0 : wrap64 (quS D x).a = (quS D x).a := quo_inB HD.out bd0
      have t0 : x.a.tdiv D = (quS D x).a := rfl
      have e1 : IntKind.i64.wrap (x.b.tdiv D) = (quS D x).b := quo_in HD.out bd1
      have f1 : wrap64 (quS D x).b = (quS D x).b := quo_inB HD.out bd1
      have t1 : x.b.tdiv D = (quS D x).b := rfl
      have e2 : IntKind.i64.wrap (x.c.tdiv D) = (quS D x).c := quo_in HD.out bd2
      have f2 : wrap64 (quS D x).c = (quS D x).c := quo_inB HD.out bd2
      have t2 : x.c.tdiv D = (quS D x).c := rfl
      have e3 : IntKind.i64.wrap (x.d.tdiv D) = (quS D x).d := quo_in HD.out bd3
      have f3 : wrap64 (quS D x).d = (quS D x).d := quo_inB HD.out bd3
      have t3 : x.d.tdiv D = (quS D x).d := rfl
      have j0 := ixS0 x.a x.b x.c x.d
      have j1 := ixS1 x.a x.b x.c x.d
      have j2 := ixS2 x.a x.b x.c x.d
      have j3 := ixS3 x.a x.b x.c x.d
      generalize ((quS D) x).a = v0 at *
      generalize ((quS D) x).b = v1 at *
      generalize ((quS D) x).c = v2 at *
      generalize ((quS D) x).d = v3 at *
      clear hs hfs q0 q1 q2 q3 hll hpl bd0 bd1 bd2 bd3
      go_wp2
      have B0 := Lib.hid (hbox.out.later (show Below wr.heap.size wr (wr.alloc (.cells #[.int .i64 x.a, .int .i64 x.b, .int .i64 x.c, .int .i64 x.d] 95)) by repeat (first | (with_reducible exact Below.refl _ _) | (with_reducible refine Below.setCell ?_ ?_ _) | (with_reducible refine Below.drew ?_) | (with_reducible refine Below.alloc ?_ ?_ _) | omega | (simp <;> omega))))
      have hgs : w.heap.size ≤ wr.heap.size := by omega
      have G0 := Lib.hid (hgr.out.alloc hgs (.cells #[.int .i64 x.a, .int .i64 x.b, .int .i64 x.c, .int .i64 x.d] 95))
      clear hbox hgr hgw hlw x0 x1 x2 x3 hgs
      generalize wr.alloc (.cells #[.int .i64 x.a, .int .i64 x.b, .int .i64 x.c, .int .i64 x.d] 95) = W0 at *
      refine wp_loop_rounds 5 ?_
      have hg0 := B0.out.lt
      rw [rounds_succ]
      have fp := B0.out.free
      go_wp2
      refine Tail.region_tail_below 7 (by kernel_rfl) (by kernel_rfl) ?_
      simp only [List.take_succ_cons, List.take_zero, List.drop_succ_cons, List.drop_zero]
      repeat (go_big_quiet_step (fail))
      refine wpQuiet_nil ?_
      intro w1 hw1
      have BB := Lib.hid (B0.out.later hw1)
      have GG := Lib.hid (G0.out.trans (hw1.mono G0.out.size))
      clear hg0 hw1 fp
      have fp := BB.out.free
      have c0 := BB.out.at s0.out
      have hg0 := BB.out.lt
      go_wp2
      have B1 := Lib.hid (BB.out.put (m * 4) l0.out v0)
      have G1 := Lib.hid (GG.out.setCell (p := ⟨w.heap.size, m * 4, none⟩) (Nat.le_refl _) (.int .i64 v0))
      clear fp c0 hg0 BB GG B0 G0 e0 f0 t0
      generalize w1.setCell ⟨w.heap.size, m * 4, none⟩ (.int .i64 v0) = W1 at *
      have hg1 := B1.out.lt
      rw [rounds_succ]
      have fp := B1.out.free
      go_wp2
      refine Tail.region_tail_below 7 (by kernel_rfl) (by kernel_rfl) ?_
      simp only [List.take_succ_cons, List.take_zero, List.drop_succ_cons, List.drop_zero]
      repeat (go_big_quiet_step (fail))
      refine wpQuiet_nil ?_
      intro w2 hw2
      have BB := Lib.hid (B1.out.later hw2)
      have GG := Lib.hid (G1.out.trans (hw2.mono G1.out.size))
      clear hg1 hw2 fp
      have fp := BB.out.free
      have c1 := BB.out.at s1.out
      have hg1 := BB.out.lt
      go_wp2
      have B2 := Lib.hid (BB.out.put (m * 4 + 1) l1.out v1)
      have G2 := Lib.hid (GG.out.setCell (p := ⟨w.heap.size, m * 4 + 1, none⟩) (Nat.le_refl _) (.int .i64 v1))
      clear fp c1 hg1 BB GG B1 G1 e1 f1 t1
      generalize w2.setCell ⟨w.heap.size, m * 4 + 1, none⟩ (.int .i64 v1) = W2 at *
      have hg2 := B2.out.lt
      rw [rounds_succ]
      have fp := B2.out.free
      go_wp2
      refine Tail.region_tail_below 7 (by kernel_rfl) (by kernel_rfl) ?_
      simp only [List.take_succ_cons, List.take_zero, List.drop_succ_cons, List.drop_zero]
      repeat (go_big_quiet_step (fail))
      refine wpQuiet_nil ?_
      intro w3 hw3
      have BB := Lib.hid (B2.out.later hw3)
      have GG := Lib.hid (G2.out.trans (hw3.mono G2.out.size))
      clear hg2 hw3 fp
      have fp := BB.out.free
      have c2 := BB.out.at s2.out
      have hg2 := BB.out.lt
      go_wp2
      have B3 := Lib.hid (BB.out.put (m * 4 + 2) l2.out v2)
      have G3 := Lib.hid (GG.out.setCell (p := ⟨w.heap.size, m * 4 + 2, none⟩) (Nat.le_refl _) (.int .i64 v2))
      clear fp c2 hg2 BB GG B2 G2 e2 f2 t2
      generalize w3.setCell ⟨w.heap.size, m * 4 + 2, none⟩ (.int .i64 v2) = W3 at *
      have hg3 := B3.out.lt
      rw [rounds_succ]
      have fp := B3.out.free
      go_wp2
      refine Tail.region_tail_below 7 (by kernel_rfl) (by kernel_rfl) ?_
      simp only [List.take_succ_cons, List.take_zero, List.drop_succ_cons, List.drop_zero]
      repeat (go_big_quiet_step (fail))
      refine wpQuiet_nil ?_
      intro w4 hw4
      have BB := Lib.hid (B3.out.later hw4)
      have GG := Lib.hid (G3.out.trans (hw4.mono G3.out.size))
      clear hg3 hw4 fp
      have fp := BB.out.free
      have c3 := BB.out.at s3.out
      have hg3 := BB.out.lt
      go_wp2
      have B4 := Lib.hid (BB.out.put (m * 4 + 3) l3.out v3)
      have G4 := Lib.hid (GG.out.setCell (p := ⟨w.heap.size, m * 4 + 3, none⟩) (Nat.le_refl _) (.int .i64 v3))
      clear fp c3 hg3 BB GG B3 G3 e3 f3 t3
      generalize w4.setCell ⟨w.heap.size, m * 4 + 3, none⟩ (.int .i64 v3) = W4 at *
      rw [rounds_succ]
      go_wp2
      exact ⟨⟨m + 1, by omega, by go_num, Lib.hid (by rw [← HF.out]; exact B4.out), G4⟩, by simp [intOf]; omega⟩
    · obtain rfl : m = M.length := by omega
      go_wp2
      go_ret
      exact ⟨⟨w.heap.size, M.length, by rw [HL.out]; rfl, by have := hbox.out; rwa [HE.out] at this, Nat.le_refl _⟩, hgr.out⟩
set_option maxHeartbeats 6400000 in
theorem rounded_any (b off pc : Nat) (M : List Sp) (w : World) (hM : LiesI w b off (fl M)) (hp : 0 < M.length) (hlen : M.length ≤ 1000000) (hb : ∀ s, s < M.length → Bd 4611686018427387904 (at0 M s)) : Calls Try.prog 100 #[.slice (some ⟨b, off, none⟩) M.length pc] w fun e w' => RetS w.heap.size (tab M.length (fun s => rdS (at0 M s))) e w' ∧ Below w.heap.size w w' := by
  have HM := Lib.hid hM
  have HE := Lib.hid (mpK_end rdS M)
  have HL := Lib.hid (show (tab M.length (fun s => rdS (at0 M s))).length = M.length from tab_len _ _)
  have HBd := Lib.hid hb
  have mk := fun (W : World) => makeS W M.length M.length rfl hlen
  have hlt := fl_lt hM hp
  have hb0 : Below w.heap.size w (w.alloc (.cells (madeCells sz.toArray (M.length * 4)) 95)) := by repeat (first | (with_reducible exact Below.refl _ _) | (with_reducible refine Below.setCell ?_ ?_ _) | (with_reducible refine Below.drew ?_) | (with_reducible refine Below.alloc ?_ ?_ _) | omega | (simp <;> omega))
  have hA : IBox (w.alloc (.cells (madeCells sz.toArray (M.length * 4)) 95)) w.heap.size (fl (mpK rdS M 0)) := by
    rw [mpK_zero]
    exact IBox.madeS (T := 95) (heap_alloc_new _ _) (by simp)
  have HA := Lib.hid hA
  have HB0 := Lib.hid hb0
  have HHS := Lib.hid (show w.heap.size = w.heap.size from rfl)
  clear hM hb0 hA hb
  have kc := @Tail.cell_re
  have kc1 : ∀ (W : World) (o : Obj) (d : Nat) (os : Array Obj) (a : Addr), a.block ≤ W.heap.size → (Sort.grow (redrawn (W.alloc o) d) os).cell? a = (W.alloc o).cell? a := fun W o d os a h => Tail.cell_re (W.alloc o) d os a (Nat.lt_of_le_of_lt h (by simp))
  go_enter Try.func100, Try.ntmps100
  go_wp2
  generalize w.alloc (.cells (madeCells sz.toArray (M.length * 4)) 95) = Wa at *
  go_loopw [4, 5, 6, 7, 13] (fun _ _ _ _ q wr => ∃ m : Nat, m ≤ M.length ∧ q = .int .i64 m ∧ Hid (IBox wr w.heap.size (fl (mpK rdS M m))) ∧ Hid (Below w.heap.size w wr)) (fun _ _ _ _ q _ => M.length - (intOf q).toNat)
  case atStart => exact ⟨0, by omega, rfl, HA, HB0⟩
  case round =>
    obtain ⟨m, hm, rfl, hbox, hgr⟩ := hrel
    by_cases hlt2 : m < M.length
    · have i1 : (m : Int) < (M.length : Int) := by omega
      have hpl : LiesI wr b off (fl M) := HM.out.later hgr.out
      have hpg : b < w.heap.size := hlt
      obtain ⟨x0, x1, x2, x3⟩ := four_at hpl (List.getElem?_eq_getElem hlt2)
      have hlw := World.block_lt_of_cell? _ _ x0
      have hgw := hbox.out.lt
      obtain ⟨q0, q1, q2, q3⟩ := fl_four (mpK_at rdS M hlt2)
      have hs := mpK_set rdS M (m := m)
      have e0 : at0 M m = M[m] := at0_of (List.getElem?_eq_getElem hlt2)
      have hbd := HBd.out m hlt2
      rw [e0] at hs hbd
      have hll : m * 4 + 3 < (fl (mpK rdS M m)).length := fl_get_len (by rw [mpK_len]; exact hlt2)
      generalize M[m] = x at *
      have hfs := fl_set (mpK rdS M m) m (rdS x)
      rw [hs] at hfs
      have HF := Lib.hid hfs
      have s0 := Lib.hid q0
      have s1 := Lib.hid (set_get_ne (v := (rdS x).a) q1 (by omega : m * 4 ≠ m * 4 + 1))
      have s2 := Lib.hid (set_get_ne (v := (rdS x).b) (set_get_ne (v := (rdS x).a) q2 (by omega : m * 4 ≠ m * 4 + 2)) (by omega : m * 4 + 1 ≠ m * 4 + 2))
      have s3 := Lib.hid (set_get_ne (v := (rdS x).c) (set_get_ne (v := (rdS x).b) (set_get_ne (v := (rdS x).a) q3 (by omega : m * 4 ≠ m * 4 + 3)) (by omega : m * 4 + 1 ≠ m * 4 + 3)) (by omega : m * 4 + 2 ≠ m * 4 + 3))
      have l0 := Lib.hid (show m * 4 < (fl (mpK rdS M m)).length by omega)
      have l1 := Lib.hid (show m * 4 + 1 < ((fl (mpK rdS M m)).set (m * 4) (rdS x).a).length by simp only [List.length_set]; omega)
      have l2 := Lib.hid (show m * 4 + 2 < (((fl (mpK rdS M m)).set (m * 4) (rdS x).a).set (m * 4 + 1) (rdS x).b).length by simp only [List.length_set]; omega)
      have l3 := Lib.hid (show m * 4 + 3 < ((((fl (mpK rdS M m)).set (m * 4) (rdS x).a).set (m * 4 + 1) (rdS x).b).set (m * 4 + 2) (rdS x).c).length by simp only [List.length_set]; omega)
      obtain ⟨bd0, bd1, bd2, bd3⟩ := hbd
      have e0 : IntKind.i64.wrap (x.a + 32768) = x.a + 32768 := rd_in bd0
      have f0 : wrap64 (x.a + 32768) = x.a + 32768 := rd_inB bd0
      have e1 : IntKind.i64.wrap (x.b + 32768) = x.b + 32768 := rd_in bd1
      have f1 : wrap64 (x.b + 32768) = x.b + 32768 := rd_inB bd1
      have e2 : IntKind.i64.wrap (x.c + 32768) = x.c + 32768 := rd_in bd2
      have f2 : wrap64 (x.c + 32768) = x.c + 32768 := rd_inB bd2
      have e3 : IntKind.i64.wrap (x.d + 32768) = x.d + 32768 := rd_in bd3
      have f3 : wrap64 (x.d + 32768) = x.d + 32768 := rd_inB bd3
      have j0 := ixS0 x.a x.b x.c x.d
      have j1 := ixS1 x.a x.b x.c x.d
      have j2 := ixS2 x.a x.b x.c x.d
      have j3 := ixS3 x.a x.b x.c x.d
      clear hs hfs q0 q1 q2 q3 hll hpl bd0 bd1 bd2 bd3
      go_wp2
      have B0 := Lib.hid (hbox.out.later (show Below wr.heap.size wr (wr.alloc (.cells #[.int .i64 x.a, .int .i64 x.b, .int .i64 x.c, .int .i64 x.d] 95)) by repeat (first | (with_reducible exact Below.refl _ _) | (with_reducible refine Below.setCell ?_ ?_ _) | (with_reducible refine Below.drew ?_) | (with_reducible refine Below.alloc ?_ ?_ _) | omega | (simp <;> omega))))
      have hgs : w.heap.size ≤ wr.heap.size := by omega
      have G0 := Lib.hid (hgr.out.alloc hgs (.cells #[.int .i64 x.a, .int .i64 x.b, .int .i64 x.c, .int .i64 x.d] 95))
      clear hbox hgr hgw hlw x0 x1 x2 x3 hgs
      generalize wr.alloc (.cells #[.int .i64 x.a, .int .i64 x.b, .int .i64 x.c, .int .i64 x.d] 95) = W0 at *
      refine wp_loop_rounds 5 ?_
      have hg0 := B0.out.lt
      rw [rounds_succ]
      have fp := B0.out.free
      have c0 := B0.out.at s0.out
      go_wp2
      have B1 := Lib.hid (B0.out.put (m * 4) l0.out ((x.a + 32768) / 65536))
      have G1 := Lib.hid (G0.out.setCell (p := ⟨w.heap.size, m * 4, none⟩) (Nat.le_refl _) (.int .i64 ((x.a + 32768) / 65536)))
      clear fp c0 hg0 B0 G0 e0 f0
      generalize W0.setCell ⟨w.heap.size, m * 4, none⟩ (.int .i64 ((x.a + 32768) / 65536)) = W1 at *
      have hg1 := B1.out.lt
      rw [rounds_succ]
      have fp := B1.out.free
      have c1 := B1.out.at s1.out
      go_wp2
      have B2 := Lib.hid (B1.out.put (m * 4 + 1) l1.out ((x.b + 32768) / 65536))
      have G2 := Lib.hid (G1.out.setCell (p := ⟨w.heap.size, m * 4 + 1, none⟩) (Nat.le_refl _) (.int .i64 ((x.b + 32768) / 65536)))
      clear fp c1 hg1 B1 G1 e1 f1
      generalize W1.setCell ⟨w.heap.size, m * 4 + 1, none⟩ (.int .i64 ((x.b + 32768) / 65536)) = W2 at *
      have hg2 := B2.out.lt
      rw [rounds_succ]
      have fp := B2.out.free
      have c2 := B2.out.at s2.out
      go_wp2
      have B3 := Lib.hid (B2.out.put (m * 4 + 2) l2.out ((x.c + 32768) / 65536))
      have G3 := Lib.hid (G2.out.setCell (p := ⟨w.heap.size, m * 4 + 2, none⟩) (Nat.le_refl _) (.int .i64 ((x.c + 32768) / 65536)))
      clear fp c2 hg2 B2 G2 e2 f2
      generalize W2.setCell ⟨w.heap.size, m * 4 + 2, none⟩ (.int .i64 ((x.c + 32768) / 65536)) = W3 at *
      have hg3 := B3.out.lt
      rw [rounds_succ]
      have fp := B3.out.free
      have c3 := B3.out.at s3.out
      go_wp2
      have B4 := Lib.hid (B3.out.put (m * 4 + 3) l3.out ((x.d + 32768) / 65536))
      have G4 := Lib.hid (G3.out.setCell (p := ⟨w.heap.size, m * 4 + 3, none⟩) (Nat.le_refl _) (.int .i64 ((x.d + 32768) / 65536)))
      clear fp c3 hg3 B3 G3 e3 f3
      generalize W3.setCell ⟨w.heap.size, m * 4 + 3, none⟩ (.int .i64 ((x.d + 32768) / 65536)) = W4 at *
      rw [rounds_succ]
      go_wp2
      exact ⟨⟨m + 1, by omega, by go_num, Lib.hid (by rw [← HF.out]; exact B4.out), G4⟩, by simp [intOf]; omega⟩
    · obtain rfl : m = M.length := by omega
      go_wp2
      go_ret
      exact ⟨⟨w.heap.size, M.length, by rw [HL.out]; rfl, by have := hbox.out; rwa [HE.out] at this, Nat.le_refl _⟩, hgr.out⟩
end Go.Proofs.Ytojmagooapjohaa
