/- Vectors divided and rounded, as the solver makes them.
Conditions: the lists lie in memory as it is written at each theorem; the entries are bounded. -/
import Derived.Test.YtojmagooapjohaaFermA
import Derived.Test.YtojmagooapjohaaSolA
import Derived.Test.YtojmagooapjohaaFermB
import Derived.WalkLawsBesides
import Derived.Defers
import Derived.Recover
import Derived.Laws.Pointers
import Derived.Test.YtojmagooapjohaaFermD
import Derived.Test.YtojmagooapjohaaChcC
namespace Go.Proofs.Ytojmagooapjohaa
set_option linter.unusedVariables false
set_option linter.unusedSimpArgs false
set_option maxRecDepth 1000000
open Go.RowKit
open Um Tm Fm

/-- the first m values by g, zeros behind -/
def mpK (g : Sp → Sp) (M : List Sp) (m : Nat) : List Sp := tab M.length (fun s => if s < m then g (at0 M s) else zs)
theorem mpK_len (g : Sp → Sp) (M : List Sp) (m : Nat) : (mpK g M m).length = M.length := tab_len _ _
theorem mpK_zero (g : Sp → Sp) (M : List Sp) : mpK g M 0 = List.replicate M.length zs := by
  refine List.ext_getElem? fun i => ?_
  by_cases hi : i < M.length
  · rw [mpK, tab_at _ hi, if_neg (by omega), List.getElem?_replicate, if_pos hi]
  · rw [List.getElem?_eq_none (by rw [mpK_len]; omega), List.getElem?_eq_none (by simp; omega)]
theorem mpK_end (g : Sp → Sp) (M : List Sp) : mpK g M M.length = tab M.length (fun s => g (at0 M s)) := tab_congr fun s hs => if_pos hs
theorem mpK_set (g : Sp → Sp) (M : List Sp) {m : Nat} : (mpK g M m).set m (g (at0 M m)) = mpK g M (m + 1) := by
  unfold mpK
  rw [tab_set]
  refine tab_congr fun s _ => ?_
  by_cases h1 : s = m
  · subst h1; rw [if_pos rfl, if_pos (by omega)]
  · rw [if_neg h1]
    by_cases h2 : s < m
    · rw [if_pos h2, if_pos (by omega)]
    · rw [if_neg h2, if_neg (by omega)]
theorem mpK_at (g : Sp → Sp) (M : List Sp) {m : Nat} (h : m < M.length) : (mpK g M m)[m]? = some zs := by
  unfold mpK
  rw [tab_at _ h, if_neg (by omega)]
theorem quo_rng {x D : Int} (h : -9000000000000000000 ≤ x ∧ x ≤ 9000000000000000000) (hD : 0 < D) : -9000000000000000000 ≤ x.tdiv D ∧ x.tdiv D ≤ 9000000000000000000 := by
  have key : ∀ y : Int, 0 ≤ y → y ≤ 9000000000000000000 → 0 ≤ y.tdiv D ∧ y.tdiv D ≤ 9000000000000000000 := fun y h0 h1 => by
    rw [Int.tdiv_eq_ediv_of_nonneg h0]
    exact ⟨Int.ediv_nonneg h0 (by omega), Int.le_trans (Int.ediv_le_self _ h0) h1⟩
  by_cases h0 : 0 ≤ x
  · have := key x h0 h.2; omega
  · have := key (-x) (by omega) (by omega)
    rw [Int.neg_tdiv] at this
    omega
theorem quo_in {x D : Int} (hD : 0 < D) (h : -9000000000000000000 ≤ x ∧ x ≤ 9000000000000000000) : IntKind.i64.wrap (x.tdiv D) = x.tdiv D := by
  have := quo_rng h hD
  generalize x.tdiv D = y at *
  rw [IntKind.wrap_i64]; omega
theorem quo_inB {x D : Int} (hD : 0 < D) (h : -9000000000000000000 ≤ x ∧ x ≤ 9000000000000000000) : wrap64 (x.tdiv D) = x.tdiv D := by
  have := quo_rng h hD
  exact w_in (by omega) (by omega)
theorem rd_in {x : Int} (h : -4611686018427387904 ≤ x ∧ x ≤ 4611686018427387904) : IntKind.i64.wrap (x + 32768) = x + 32768 := by rw [IntKind.wrap_i64]; omega
theorem rd_inB {x : Int} (h : -4611686018427387904 ≤ x ∧ x ≤ 4611686018427387904) : wrap64 (x + 32768) = x + 32768 := w_in (by omega) (by omega)
set_option maxHeartbeats 6400000 in
theorem quotient_any (D : Int) (b off pc : Nat) (M : List Sp) (w : World) (hM : LiesI w b off (fl M)) (hp : 0 < M.length) (hlen : M.length ≤ 1000000) (hD : 0 < D) (hb : ∀ s, s < M.length → Bd 9000000000000000000 (at0 M s)) : Calls Try.prog 98 #[.slice (some ⟨b, off, none⟩) M.length pc, .int .i64 D] w fun e w' => RetS w.heap.size (tab M.length (fun s => (quS D) (at0 M s))) e w' ∧ Below w.heap.size w w' := by
  have HM := Lib.hid hM
  have HE := Lib.hid (mpK_end (quS D) M)
  have HL := Lib.hid (show (tab M.length (fun s => (quS D) (at0 M s))).length = M.length from tab_len _ _)
  have HBd := Lib.hid hb
  have mk := fun (W : World) => makeS W M.length M.length rfl hlen
  have hlt := fl_lt hM hp
  have hb0 : Below w.heap.size w (w.alloc (.cells (madeCells sz.toArray (M.length * 4)) 95)) := by repeat (first | (with_reducible exact Below.refl _ _) | (with_reducible refine Below.setCell ?_ ?_ _) | (with_reducible refine Below.drew ?_) | (with_reducible refine Below.alloc ?_ ?_ _) | omega | (simp <;> omega))
  have hA : IBox (w.alloc (.cells (madeCells sz.toArray (M.length * 4)) 95)) w.heap.size (fl (mpK (quS D) M 0)) := by
    rw [mpK_zero]
    exact IBox.madeS (T := 95) (heap_alloc_new _ _) (by simp)
  have HA := Lib.hid hA
  have HB0 := Lib.hid hb0
  have HHS := Lib.hid (show w.heap.size = w.heap.size from rfl)
  have hd0 : ¬ D = 0 := by omega
  have HD := Lib.hid hD
  clear hD
  clear hM hb0 hA hb
  have kc := @Tail.cell_re
  have kc1 : ∀ (W : World) (o : Obj) (d : Nat) (os : Array Obj) (a : Addr), a.block ≤ W.heap.size → (Sort.grow (redrawn (W.alloc o) d) os).cell? a = (W.alloc o).cell? a := fun W o d os a h => Tail.cell_re (W.alloc o) d os a (Nat.lt_of_le_of_lt h (by simp))
  go_enter Try.func98, Try.ntmps98
  go_wp2
  generalize w.alloc (.cells (madeCells sz.toArray (M.length * 4)) 95) = Wa at *
  go_loopw [6, 7, 8, 9, 15] (fun _ _ _ _ q wr => ∃ m : Nat, m ≤ M.length ∧ q = .int .i64 m ∧ Hid (IBox wr w.heap.size (fl (mpK (quS D) M m))) ∧ Hid (Below w.heap.size w wr)) (fun _ _ _ _ q _ => M.length - (intOf q).toNat)
  case atStart => exact ⟨0, by omega, rfl, HA, HB0⟩
  case round =>
    obtain ⟨m, hm, rfl, hbox, hgr⟩ := hrel
    by_cases hlt2 : m < M.length
    · have i1 : (m : Int) < (M.length : Int) := by omega
      have hpl : LiesI wr b off (fl M) := HM.out.later hgr.out
      have hpg : b < w.heap.size := hlt
      obtain ⟨x0, x1, x2, x3⟩ := four_at hpl (List.getElem?_eq_getElem hlt2)
      have hlw := World.block_lt_of_cell? _ _ x0
      have hgw := hbox.out.lt
      obtain ⟨q0, q1, q2, q3⟩ := fl_four (mpK_at (quS D) M hlt2)
      have hs := mpK_set (quS D) M (m := m)
      have e0 : at0 M m = M[m] := at0_of (List.getElem?_eq_getElem hlt2)
      have hbd := HBd.out m hlt2
      rw [e0] at hs hbd
      have hll : m * 4 + 3 < (fl (mpK (quS D) M m)).length := fl_get_len (by rw [mpK_len]; exact hlt2)
      generalize M[m] = x at *
      have hfs := fl_set (mpK (quS D) M m) m ((quS D) x)
      rw [hs] at hfs
      have HF := Lib.hid hfs
      have s0 := Lib.hid q0
      have s1 := Lib.hid (set_get_ne (v := ((quS D) x).a) q1 (by omega : m * 4 ≠ m * 4 + 1))
      have s2 := Lib.hid (set_get_ne (v := ((quS D) x).b) (set_get_ne (v := ((quS D) x).a) q2 (by omega : m * 4 ≠ m * 4 + 2)) (by omega : m * 4 + 1 ≠ m * 4 + 2))
      have s3 := Lib.hid (set_get_ne (v := ((quS D) x).c) (set_get_ne (v := ((quS D) x).b) (set_get_ne (v := ((quS D) x).a) q3 (by omega : m * 4 ≠ m * 4 + 3)) (by omega : m * 4 + 1 ≠ m * 4 + 3)) (by omega : m * 4 + 2 ≠ m * 4 + 3))
      have l0 := Lib.hid (show m * 4 < (fl (mpK (quS D) M m)).length by omega)
      have l1 := Lib.hid (show m * 4 + 1 < ((fl (mpK (quS D) M m)).set (m * 4) ((quS D) x).a).length by simp only [List.length_set]; omega)
      have l2 := Lib.hid (show m * 4 + 2 < (((fl (mpK (quS D) M m)).set (m * 4) ((quS D) x).a).set (m * 4 + 1) ((quS D) x).b).length by simp only [List.length_set]; omega)
      have l3 := Lib.hid (show m * 4 + 3 < ((((fl (mpK (quS D) M m)).set (m * 4) ((quS D) x).a).set (m * 4 + 1) ((quS D) x).b).set (m * 4 + 2) ((quS D) x).c).length by simp only [List.length_set]; omega)
      obtain ⟨bd0, bd1, bd2, bd3⟩ := hbd
      have e0 : IntKind.i64.wrap (x.a.tdiv D) = (quS D x).a := quo_in HD.out bd0
      have f0 : wrap64 (quS D x).a = (quS D x).a := quo_inB HD.out bd0
      have t0 : x.a.tdiv D = (quS D x).a := rfl
      have e1 : IntKind.i64.wrap (x.b.tdiv D) = (quS D x).b := quo_in HD.out bd1
      have f1 : wrap64 (quS D x).b = (quS D x).b := quo_inB HD.out bd1
      have t1 : x.b.tdiv D = (quS D x).b := rfl
      have e2 : IntKind.i64.wrap (x.c.tdiv D) = (quS D x).c := quo_in HD.out bd2
      have f2 : wrap64 (quS D x).c = (quS D x).c := quo_inB HD.out bd2
      have t2 : x.c.tdiv D = (quS D x).c := rfl
      have e3 : IntKind.i64.wrap (x.d.tdiv D) = (quS D x).d := quo_in HD.out bd3
      have f3 : wrap64 (quS D x).d = (quS D x).d := quo_inB HD.out bd3
      have t3 : x.d.tdiv D = (quS D x).d := rfl
      have j0 := ixS0 x.a x.b x.c x.d
      have j1 := ixS1 x.a x.b x.c x.d
      have j2 := ixS2 x.a x.b x.c x.d
      have j3 := ixS3 x.a x.b x.c x.d
      generalize ((quS D) x).a = v0 at *
      generalize ((quS D) x).b = v1 at *
      generalize ((quS D) x).c = v2 at *
      generalize ((quS D) x).d = v3 at *
      clear hs hfs q0 q1 q2 q3 hll hpl bd0 bd1 bd2 bd3
      go_wp2
      have B0 := Lib.hid (hbox.out.later (show Below wr.heap.size wr (wr.alloc (.cells #[.int .i64 x.a, .int .i64 x.b, .int .i64 x.c, .int .i64 x.d] 95)) by repeat (first | (with_reducible exact Below.refl _ _) | (with_reducible refine Below.setCell ?_ ?_ _) | (with_reducible refine Below.drew ?_) | (with_reducible refine Below.alloc ?_ ?_ _) | omega | (simp <;> omega))))
      have hgs : w.heap.size ≤ wr.heap.size := by omega
      have G0 := Lib.hid (hgr.out.alloc hgs (.cells #[.int .i64 x.a, .int .i64 x.b, .int .i64 x.c, .int .i64 x.d] 95))
      clear hbox hgr hgw hlw x0 x1 x2 x3 hgs
      generalize wr.alloc (.cells #[.int .i64 x.a, .int .i64 x.b, .int .i64 x.c, .int .i64 x.d] 95) = W0 at *
      refine wp_loop_rounds 5 ?_
      have hg0 := B0.out.lt
      rw [rounds_succ]
      have fp := B0.out.free
      go_wp2
      refine Tail.region_tail_below 7 (by kernel_rfl) (by kernel_rfl) ?_
      simp only [List.take_succ_cons, List.take_zero, List.drop_succ_cons, List.drop_zero]
      repeat (go_big_quiet_step (fail))
      refine wpQuiet_nil ?_
      intro w1 hw1
      have BB := Lib.hid (B0.out.later hw1)
      have GG := Lib.hid (G0.out.trans (hw1.mono G0.out.size))
      clear hg0 hw1 fp
      have fp := BB.out.free
      have c0 := BB.out.at s0.out
      have hg0 := BB.out.lt
      go_wp2
      have B1 := Lib.hid (BB.out.put (m * 4) l0.out v0)
      have G1 := Lib.hid (GG.out.setCell (p := ⟨w.heap.size, m * 4, none⟩) (Nat.le_refl _) (.int .i64 v0))
      clear fp c0 hg0 BB GG B0 G0 e0 f0 t0
      generalize w1.setCell ⟨w.heap.size, m * 4, none⟩ (.int .i64 v0) = W1 at *
      have hg1 := B1.out.lt
      rw [rounds_succ]
      have fp := B1.out.free
      go_wp2
      refine Tail.region_tail_below 7 (by kernel_rfl) (by kernel_rfl) ?_
      simp only [List.take_succ_cons, List.take_zero, List.drop_succ_cons, List.drop_zero]
      repeat (go_big_quiet_step (fail))
      refine wpQuiet_nil ?_
      intro w2 hw2
      have BB := Lib.hid (B1.out.later hw2)
      have GG := Lib.hid (G1.out.trans (hw2.mono G1.out.size))
      clear hg1 hw2 fp
      have fp := BB.out.free
      have c1 := BB.out.at s1.out
      have hg1 := BB.out.lt
      go_wp2
      have B2 := Lib.hid (BB.out.put (m * 4 + 1) l1.out v1)
      have G2 := Lib.hid (GG.out.setCell (p := ⟨w.heap.size, m * 4 + 1, none⟩) (Nat.le_refl _) (.int .i64 v1))
      clear fp c1 hg1 BB GG B1 G1 e1 f1 t1
      generalize w2.setCell ⟨w.heap.size, m * 4 + 1, none⟩ (.int .i64 v1) = W2 at *
      have hg2 := B2.out.lt
      rw [rounds_succ]
      have fp := B2.out.free
      go_wp2
      refine Tail.region_tail_below 7 (by kernel_rfl) (by kernel_rfl) ?_
      simp only [List.take_succ_cons, List.take_zero, List.drop_succ_cons, List.drop_zero]
      repeat (go_big_quiet_step (fail))
      refine wpQuiet_nil ?_
      intro w3 hw3
      have BB := Lib.hid (B2.out.later hw3)
      have GG := Lib.hid (G2.out.trans (hw3.mono G2.out.size))
      clear hg2 hw3 fp
      have fp := BB.out.free
      have c2 := BB.out.at s2.out
      have hg2 := BB.out.lt
      go_wp2
      have B3 := Lib.hid (BB.out.put (m * 4 + 2) l2.out v2)
      have G3 := Lib.hid (GG.out.setCell (p := ⟨w.heap.size, m * 4 + 2, none⟩) (Nat.le_refl _) (.int .i64 v2))
      clear fp c2 hg2 BB GG B2 G2 e2 f2 t2
      generalize w3.setCell ⟨w.heap.size, m * 4 + 2, none⟩ (.int .i64 v2) = W3 at *
      have hg3 := B3.out.lt
      rw [rounds_succ]
      have fp := B3.out.free
      go_wp2
      refine Tail.region_tail_below 7 (by kernel_rfl) (by kernel_rfl) ?_
      simp only [List.take_succ_cons, List.take_zero, List.drop_succ_cons, List.drop_zero]
      repeat (go_big_quiet_step (fail))
      refine wpQuiet_nil ?_
      intro w4 hw4
      have BB := Lib.hid (B3.out.later hw4)
      have GG := Lib.hid (G3.out.trans (hw4.mono G3.out.size))
      clear hg3 hw4 fp
      have fp := BB.out.free
      have c3 := BB.out.at s3.out
      have hg3 := BB.out.lt
      go_wp2
      have B4 := Lib.hid (BB.out.put (m * 4 + 3) l3.out v3)
      have G4 := Lib.hid (GG.out.setCell (p := ⟨w.heap.size, m * 4 + 3, none⟩) (Nat.le_refl _) (.int .i64 v3))
      clear fp c3 hg3 BB GG B3 G3 e3 f3 t3
      generalize w4.setCell ⟨w.heap.size, m * 4 + 3, none⟩ (.int .i64 v3) = W4 at *
      rw [rounds_succ]
      go_wp2
      exact ⟨⟨m + 1, by omega, by go_num, Lib.hid (by rw [← HF.out]; exact B4.out), G4⟩, by simp [intOf]; omega⟩
    · obtain rfl : m = M.length := by omega
      go_wp2
      go_ret
      exact ⟨⟨w.heap.size, M.length, by rw [HL.out]; rfl, by have := hbox.out; rwa [HE.out] at this, Nat.le_refl _⟩, hgr.out⟩
set_option maxHeartbeats 6400000 in
theorem rounded_any (b off pc : Nat) (M : List Sp) (w : World) (hM : LiesI w b off (fl M)) (hp : 0 < M.length) (hlen : M.length ≤ 1000000) (hb : ∀ s, s < M.length → Bd 4611686018427387904 (at0 M s)) : Calls Try.prog 100 #[.slice (some ⟨b, off, none⟩) M.length pc] w fun e w' => RetS w.heap.size (tab M.length (fun s => rdS (at0 M s))) e w' ∧ Below w.heap.size w w' := by
  have HM := Lib.hid hM
  have HE := Lib.hid (mpK_end rdS M)
  have HL := Lib.hid (show (tab M.length (fun s => rdS (at0 M s))).length = M.length from tab_len _ _)
  have HBd := Lib.hid hb
  have mk := fun (W : World) => makeS W M.length M.length rfl hlen
  have hlt := fl_lt hM hp
  have hb0 : Below w.heap.size w (w.alloc (.cells (madeCells sz.toArray (M.length * 4)) 95)) := by repeat (first | (with_reducible exact Below.refl _ _) | (with_reducible refine Below.setCell ?_ ?_ _) | (with_reducible refine Below.drew ?_) | (with_reducible refine Below.alloc ?_ ?_ _) | omega | (simp <;> omega))
  have hA : IBox (w.alloc (.cells (madeCells sz.toArray (M.length * 4)) 95)) w.heap.size (fl (mpK rdS M 0)) := by
    rw [mpK_zero]
    exact IBox.madeS (T := 95) (heap_alloc_new _ _) (by simp)
  have HA := Lib.hid hA
  have HB0 := Lib.hid hb0
  have HHS := Lib.hid (show w.heap.size = w.heap.size from rfl)
  clear hM hb0 hA hb
  have kc := @Tail.cell_re
  have kc1 : ∀ (W : World) (o : Obj) (d : Nat) (os : Array Obj) (a : Addr), a.block ≤ W.heap.size → (Sort.grow (redrawn (W.alloc o) d) os).cell? a = (W.alloc o).cell? a := fun W o d os a h => Tail.cell_re (W.alloc o) d os a (Nat.lt_of_le_of_lt h (by simp))
  go_enter Try.func100, Try.ntmps100
  go_wp2
  generalize w.alloc (.cells (madeCells sz.toArray (M.length * 4)) 95) = Wa at *
  go_loopw [4, 5, 6, 7, 13] (fun _ _ _ _ q wr => ∃ m : Nat, m ≤ M.length ∧ q = .int .i64 m ∧ Hid (IBox wr w.heap.size (fl (mpK rdS M m))) ∧ Hid (Below w.heap.size w wr)) (fun _ _ _ _ q _ => M.length - (intOf q).toNat)
  case atStart => exact ⟨0, by omega, rfl, HA, HB0⟩
  case round =>
    obtain ⟨m, hm, rfl, hbox, hgr⟩ := hrel
    by_cases hlt2 : m < M.length
    · have i1 : (m : Int) < (M.length : Int) := by omega
      have hpl : LiesI wr b off (fl M) := HM.out.later hgr.out
      have hpg : b < w.heap.size := hlt
      obtain ⟨x0, x1, x2, x3⟩ := four_at hpl (List.getElem?_eq_getElem hlt2)
      have hlw := World.block_lt_of_cell? _ _ x0
      have hgw := hbox.out.lt
      obtain ⟨q0, q1, q2, q3⟩ := fl_four (mpK_at rdS M hlt2)
      have hs := mpK_set rdS M (m := m)
      have e0 : at0 M m = M[m] := at0_of (List.getElem?_eq_getElem hlt2)
      have hbd := HBd.out m hlt2
      rw [e0] at hs hbd
      have hll : m * 4 + 3 < (fl (mpK rdS M m)).length := fl_get_len (by rw [mpK_len]; exact hlt2)
      generalize M[m] = x at *
      have hfs := fl_set (mpK rdS M m) m (rdS x)
      rw [hs] at hfs
      have HF := Lib.hid hfs
      have s0 := Lib.hid q0
      have s1 := Lib.hid (set_get_ne (v := (rdS x).a) q1 (by omega : m * 4 ≠ m * 4 + 1))
      have s2 := Lib.hid (set_get_ne (v := (rdS x).b) (set_get_ne (v := (rdS x).a) q2 (by omega : m * 4 ≠ m * 4 + 2)) (by omega : m * 4 + 1 ≠ m * 4 + 2))
      have s3 := Lib.hid (set_get_ne (v := (rdS x).c) (set_get_ne (v := (rdS x).b) (set_get_ne (v := (rdS x).a) q3 (by omega : m * 4 ≠ m * 4 + 3)) (by omega : m * 4 + 1 ≠ m * 4 + 3)) (by omega : m * 4 + 2 ≠ m * 4 + 3))
      have l0 := Lib.hid (show m * 4 < (fl (mpK rdS M m)).length by omega)
      have l1 := Lib.hid (show m * 4 + 1 < ((fl (mpK rdS M m)).set (m * 4) (rdS x).a).length by simp only [List.length_set]; omega)
      have l2 := Lib.hid (show m * 4 + 2 < (((fl (mpK rdS M m)).set (m * 4) (rdS x).a).set (m * 4 + 1) (rdS x).b).length by simp only [List.length_set]; omega)
      have l3 := Lib.hid (show m * 4 + 3 < ((((fl (mpK rdS M m)).set (m * 4) (rdS x).a).set (m * 4 + 1) (rdS x).b).set (m * 4 + 2) (rdS x).c).length by simp only [List.length_set]; omega)
      obtain ⟨bd0, bd1, bd2, bd3⟩ := hbd
      have e0 : IntKind.i64.wrap (x.a + 32768) = x.a + 32768 := rd_in bd0
      have f0 : wrap64 (x.a + 32768) = x.a + 32768 := rd_inB bd0
      have e1 : IntKind.i64.wrap (x.b + 32768) = x.b + 32768 := rd_in bd1
      have f1 : wrap64 (x.b + 32768) = x.b + 32768 := rd_inB bd1
      have e2 : IntKind.i64.wrap (x.c + 32768) = x.c + 32768 := rd_in bd2
      have f2 : wrap64 (x.c + 32768) = x.c + 32768 := rd_inB bd2
      have e3 : IntKind.i64.wrap (x.d + 32768) = x.d + 32768 := rd_in bd3
      have f3 : wrap64 (x.d + 32768) = x.d + 32768 := rd_inB bd3
      have j0 := ixS0 x.a x.b x.c x.d
      have j1 := ixS1 x.a x.b x.c x.d
      have j2 := ixS2 x.a x.b x.c x.d
      have j3 := ixS3 x.a x.b x.c x.d
      clear hs hfs q0 q1 q2 q3 hll hpl bd0 bd1 bd2 bd3
      go_wp2
      have B0 := Lib.hid (hbox.out.later (show Below wr.heap.size wr (wr.alloc (.cells #[.int .i64 x.a, .int .i64 x.b, .int .i64 x.c, .int .i64 x.d] 95)) by repeat (first | (with_reducible exact Below.refl _ _) | (with_reducible refine Below.setCell ?_ ?_ _) | (with_reducible refine Below.drew ?_) | (with_reducible refine Below.alloc ?_ ?_ _) | omega | (simp <;> omega))))
      have hgs : w.heap.size ≤ wr.heap.size := by omega
      have G0 := Lib.hid (hgr.out.alloc hgs (.cells #[.int .i64 x.a, .int .i64 x.b, .int .i64 x.c, .int .i64 x.d] 95))
      clear hbox hgr hgw hlw x0 x1 x2 x3 hgs
      generalize wr.alloc (.cells #[.int .i64 x.a, .int .i64 x.b, .int .i64 x.c, .int .i64 x.d] 95) = W0 at *
      refine wp_loop_rounds 5 ?_
      have hg0 := B0.out.lt
      rw [rounds_succ]
      have fp := B0.out.free
      have c0 := B0.out.at s0.out
      go_wp2
      have B1 := Lib.hid (B0.out.put (m * 4) l0.out ((x.a + 32768) / 65536))
      have G1 := Lib.hid (G0.out.setCell (p := ⟨w.heap.size, m * 4, none⟩) (Nat.le_refl _) (.int .i64 ((x.a + 32768) / 65536)))
      clear fp c0 hg0 B0 G0 e0 f0
      generalize W0.setCell ⟨w.heap.size, m * 4, none⟩ (.int .i64 ((x.a + 32768) / 65536)) = W1 at *
      have hg1 := B1.out.lt
      rw [rounds_succ]
      have fp := B1.out.free
      have c1 := B1.out.at s1.out
      go_wp2
      have B2 := Lib.hid (B1.out.put (m * 4 + 1) l1.out ((x.b + 32768) / 65536))
      have G2 := Lib.hid (G1.out.setCell (p := ⟨w.heap.size, m * 4 + 1, none⟩) (Nat.le_refl _) (.int .i64 ((x.b + 32768) / 65536)))
      clear fp c1 hg1 B1 G1 e1 f1
      generalize W1.setCell ⟨w.heap.size, m * 4 + 1, none⟩ (.int .i64 ((x.b + 32768) / 65536)) = W2 at *
      have hg2 := B2.out.lt
      rw [rounds_succ]
      have fp := B2.out.free
      have c2 := B2.out.at s2.out
      go_wp2
      have B3 := Lib.hid (B2.out.put (m * 4 + 2) l2.out ((x.c + 32768) / 65536))
      have G3 := Lib.hid (G2.out.setCell (p := ⟨w.heap.size, m * 4 + 2, none⟩) (Nat.le_refl _) (.int .i64 ((x.c + 32768) / 65536)))
      clear fp c2 hg2 B2 G2 e2 f2
      generalize W2.setCell ⟨w.heap.size, m * 4 + 2, none⟩ (.int .i64 ((x.c + 32768) / 65536)) = W3 at *
      have hg3 := B3.out.lt
      rw [rounds_succ]
      have fp := B3.out.free
      have c3 := B3.out.at s3.out
      go_wp2
      have B4 := Lib.hid (B3.out.put (m * 4 + 3) l3.out ((x.d + 32768) / 65536))
      have G4 := Lib.hid (G3.out.setCell (p := ⟨w.heap.size, m * 4 + 3, none⟩) (Nat.le_refl _) (.int .i64 ((x.d + 32768) / 65536)))
      clear fp c3 hg3 B3 G3 e3 f3
      generalize W3.setCell ⟨w.heap.size, m * 4 + 3, none⟩ (.int .i64 ((x.d + 32768) / 65536)) = W4 at *
      rw [rounds_succ]
      go_wp2
      exact ⟨⟨m + 1, by omega, by go_num, Lib.hid (by rw [← HF.out]; exact B4.out), G4⟩, by simp [intOf]; omega⟩
    · obtain rfl : m = M.length := by omega
      go_wp2
      go_ret
      exact ⟨⟨w.heap.size, M.length, by rw [HL.out]; rfl, by have := hbox.out; rwa [HE.out] at this, Nat.le_refl _⟩, hgr.out⟩
end Go.Proofs.Ytojmagooapjohaa

/- The solver's loop: it stops with panic, with a rounded solution where no correction is left.
Conditions: those written at each theorem. -/
namespace Go.Proofs.Ytojmagooapjohaa
set_option linter.unusedVariables false
set_option linter.unusedSimpArgs false
set_option maxRecDepth 1000000
open Go.RowKit
open Um Tm Fm

/-- an entry that lies in memory -/
def cellI (w : World) (g i : Nat) : Int := match w.cell? ⟨g, i, none⟩ with
  | some (.int _ x) => x
  | _ => 0
/-- a vector that lies in memory -/
def memS (w : World) (g n : Nat) : List Sp := tab n (fun s => ⟨cellI w g (s * 4), cellI w g (s * 4 + 1), cellI w g (s * 4 + 2), cellI w g (s * 4 + 3)⟩)
theorem cellI_of {w : World} {g i : Nat} {x : Int} (h : w.cell? ⟨g, i, none⟩ = some (.int .i64 x)) : cellI w g i = x := by
  unfold cellI; rw [h]
theorem memS_of {w : World} {g n : Nat} {X : List Sp} (h : IBox w g (fl X)) (hX : X.length = n) : memS w g n = X := by
  conv => rhs; rw [← tab_self X, hX]
  refine tab_congr fun s hs => ?_
  have hx := List.getElem?_eq_getElem (show s < X.length by omega)
  obtain ⟨q0, q1, q2, q3⟩ := fl_four hx
  rw [cellI_of (h.at q0), cellI_of (h.at q1), cellI_of (h.at q2), cellI_of (h.at q3), at0_of hx]
theorem inR_zero {n : Nat} {C : List Sp} (hn : C.length = n) : (inR 0 C true ∧ ∀ s, s < n → at0 C s = zs) ∨ (inR 0 C false ∧ ∃ s, s < n ∧ at0 C s ≠ zs) := by
  have key : ∀ p : Sp, InS 0 p ↔ p = zs := fun p => by
    refine ⟨fun h => ?_, fun h => ?_⟩
    · obtain ⟨h1, h2, h3, h4⟩ := h
      exact ext_S (show p.a = 0 by omega) (show p.b = 0 by omega) (show p.c = 0 by omega) (show p.d = 0 by omega)
    · subst h; unfold InS zs; decide
  by_cases h : AllE 0 C
  · exact .inl ⟨.inl ⟨h, rfl⟩, fun s hs => by
      have hx := List.getElem?_eq_getElem (show s < C.length by omega)
      rw [at0_of hx]
      exact (key _).1 (h _ _ hx)⟩
  · refine .inr ⟨.inr ⟨h, rfl⟩, ?_⟩
    refine Classical.byContradiction fun h2 => h fun i x hx => (key x).2 ?_
    refine Classical.byContradiction fun h3 => h2 ⟨i, by have := (List.getElem?_eq_some_iff.1 hx).1; omega, ?_⟩
    rw [at0_of hx]; exact h3
/-- what the solver stops with -/
def RetP (m : Nat) (ma : Int) (n : Nat) (A : List Arm) (B : List Sp) (e : Ending) (w' : World) : Prop := ∃ (g k : Nat) (X : List Sp), e = .panicked [{ v := .iface 108 (.agg #[.slice (some ⟨g, 0, none⟩) n k]), recovered := false }] ∧ LiesI w' g 0 (fl (rdL n X)) ∧ m ≤ g ∧ Inv (4 * ma) n A B X ∧ ∀ s, s < n → at0 (cor ma n A B X) s = zs
theorem prog_add {n : Nat} {X C : List Sp} {K : Int} (hX : X.length = n) (h : ∀ s, s < n → Bd K (at0 (lnL n 1 1 X C) s)) (hK : K ≤ 4000000000000000000) : axp 1 X C = lnL n 1 1 X C := by
  unfold axp lnL
  rw [hX]
  refine tab_congr fun s hs => ?_
  have := h s hs
  unfold lnL at this
  rw [at0_tab _ hs] at this
  rw [← bd_w this (by omega)]
  unfold axS linS
  congr 1
  refine ext_S ?_ ?_ ?_ ?_ <;> simp only [addS, smS] <;> omega
/-- a vector is answered -/
def GotV (m n : Nat) (X : List Sp) (e : Ending) (w' : World) : Prop := ∃ g k : Nat, e = .returned (.slice (some ⟨g, 0, none⟩) n k) ∧ IBox w' g (fl X) ∧ m ≤ g
set_option maxHeartbeats 6400000 in
theorem solve7_any (a b c ma : Int) (L : List Q) (base g n gc bb bo bc : Nat) (vs : Nat → Value) (B : List Sp) (w : World) (hF : Fld7 a b c L n) (hm : IsM ma) (hH : Hp w base g n vs (row (arms a b c L L.length))) (hB : LiesI w bb bo (fl B)) (hn : B.length = n) (hO : One4 L) (hBs : sqF (at0 B) n ≤ 549755813888 * 549755813888) (hBb : ∀ s, s < n → Bd 549755813888 (at0 B s)) : Calls Try.prog 58 #[.slice (some ⟨g, 0, none⟩) n gc, .int .i64 ma, .slice (some ⟨bb, bo, none⟩) n bc] w fun e w' => RetP w.heap.size ma n (arms a b c L L.length) B e w' ∧ Below w.heap.size w w' := by
  have hpos := hF.pos
  have hll := hF.l
  have hm1 : 1 ≤ ma ∧ ma ≤ 10 := hm
  have mm : 0 ≤ ma * ma ∧ ma * ma ≤ 100 := ⟨Int.mul_nonneg (by omega) (by omega), by have : ma * ma ≤ 10 * 10 := Int.mul_le_mul hm1.2 hm1.2 (by omega) (by omega); omega⟩
  have ea : 16 * ma * ma = 16 * (ma * ma) := Int.mul_assoc ..
  have hD : 0 < 16 * ma * ma + 72 := by omega
  have mk := fun (W : World) => makeS W n n rfl (by omega)
  have q1 : IntKind.i64.wrap (16 * ma) = 16 * ma := by rw [IntKind.wrap_i64]; omega
  have q2 : IntKind.i64.wrap (16 * ma * ma) = 16 * ma * ma := by rw [IntKind.wrap_i64]; omega
  have q3 : IntKind.i64.wrap (16 * ma * ma + 72) = 16 * ma * ma + 72 := by rw [IntKind.wrap_i64]; omega
  have q4 : wrap64 (16 * ma) = 16 * ma := w_in (by omega) (by omega)
  have q5 : wrap64 (16 * ma * ma) = 16 * ma * ma := w_in (by omega) (by omega)
  have q6 : wrap64 (16 * ma * ma + 72) = 16 * ma * ma + 72 := w_in (by omega) (by omega)
  have bnds := fun (X : List Sp) (h : Inv (4 * ma) n (arms a b c L (n * 3)) B X) => inv_bounds hF.z hF.e hO (by omega) (by omega) hn hBs h
  have stp := fun (X : List Sp) (h : Inv (4 * ma) n (arms a b c L (n * 3)) B X) => inv_step hF.z hF.e hO hm1.1 h
  rw [← hll] at bnds stp
  have d1 : ∀ (W : World) (X : List Sp) (gx k : Nat), Inv (4 * ma) n (arms a b c L L.length) B X → Hp W base g n vs (row (arms a b c L L.length)) → IBox W gx (fl X) → Calls Try.prog 55 #[.slice (some ⟨g, 0, none⟩) n gc, .int .i64 ma, .slice (some ⟨gx, 0, none⟩) n k] W fun e w' => GotV W.heap.size n (opL 1 ma n (arms a b c L L.length) X) e w' ∧ Below W.heap.size W w' := fun W X gx k hI h1 h2 => apply7_any a b c ma L base g n gc gx 0 k vs X W hF hm h1 h2.h hI.l
  have d2 : ∀ (W : World) (X : List Sp) (gy k : Nat), Inv (4 * ma) n (arms a b c L L.length) B X → LiesI W bb bo (fl B) → IBox W gy (fl (opL 1 ma n (arms a b c L L.length) X)) → Calls Try.prog 97 #[.slice (some ⟨bb, bo, none⟩) n bc, .slice (some ⟨gy, 0, none⟩) n k] W fun e w' => GotV W.heap.size n (lfL (4 * ma) n (arms a b c L L.length) B X) e w' ∧ Below W.heap.size W w' := fun W X gy k hI h1 h2 => by
    have hl : (opL 1 ma n (arms a b c L L.length) X).length = n := by rw [opL_E, tab_len]
    have := minus_any bb bo bc gy 0 k B _ W h1 h2.h (by omega) (by omega) (by omega)
    rw [hl, prog_left hn hBb (by decide) (bnds X hI).2.1 (by decide)] at this
    refine this.mono fun e w' ⟨⟨g, k, e1, e2, e3⟩, hw⟩ => ⟨⟨g, k, by rw [e1, lfL_len], e2, e3⟩, hw⟩
  have d3 : ∀ (W : World) (X : List Sp) (gy k : Nat), Inv (4 * ma) n (arms a b c L L.length) B X → Hp W base g n vs (row (arms a b c L L.length)) → IBox W gy (fl (lfL (4 * ma) n (arms a b c L L.length) B X)) → Calls Try.prog 99 #[.slice (some ⟨g, 0, none⟩) n gc, .int .i64 ma, .slice (some ⟨gy, 0, none⟩) n k] W fun e w' => GotV W.heap.size n (opT (-1) (4 * ma) n (arms a b c L L.length) (lfL (4 * ma) n (arms a b c L L.length) B X)) e w' ∧ Below W.heap.size W w' := fun W X gy k hI h1 h2 => by
    have := dagger7_any a b c ma L base g n gc gy 0 k vs _ W hF hm h1 h2.h (lfL_len _ _ _ _ _)
    rw [prog_op (bnds X hI).2.2.2 (by decide)] at this
    exact this
  have d4 : ∀ (W : World) (X : List Sp) (gy k : Nat), Inv (4 * ma) n (arms a b c L L.length) B X → IBox W gy (fl (opT (-1) (4 * ma) n (arms a b c L L.length) (lfL (4 * ma) n (arms a b c L L.length) B X))) → Calls Try.prog 98 #[.slice (some ⟨gy, 0, none⟩) n k, .int .i64 (16 * ma * ma + 72)] W fun e w' => GotV W.heap.size n (cor ma n (arms a b c L L.length) B X) e w' ∧ Below W.heap.size W w' := fun W X gy k hI h2 => by
    have hl : (opT (-1) (4 * ma) n (arms a b c L L.length) (lfL (4 * ma) n (arms a b c L L.length) B X)).length = n := opT_len _ _ _ _ _
    have := quotient_any (16 * ma * ma + 72) gy 0 k _ W h2.h (by omega) (by omega) hD (fun s hs => bd_le ((bnds X hI).2.2.2 s (by omega)) (by decide))
    rw [hl] at this
    refine this.mono fun e w' ⟨⟨g, k, e1, e2, e3⟩, hw⟩ => ⟨⟨g, k, by rw [e1, tab_len], e2, e3⟩, hw⟩
  have d5 : ∀ (W : World) (C : List Sp) (gy k : Nat) (r : Bool), C.length = n → inR 0 C r → IBox W gy (fl C) → Calls Try.prog 56 #[.slice (some ⟨gy, 0, none⟩) n k, .int .i64 0] W fun e w' => e = .returned (.bool r) ∧ Below W.heap.size W w' := fun W C gy k r hC hr h2 => by
    have := isWithin7_any 0 (some ⟨gy, 0, none⟩) C k W r (.inr ⟨gy, 0, rfl, h2.h⟩) (by decide) (by decide) (by omega) hr
    rw [hC] at this
    exact this
  have d6 : ∀ (W : World) (X : List Sp) (gx k : Nat), Inv (4 * ma) n (arms a b c L L.length) B X → IBox W gx (fl X) → Calls Try.prog 100 #[.slice (some ⟨gx, 0, none⟩) n k] W fun e w' => GotV W.heap.size n (rdL n X) e w' ∧ Below W.heap.size W w' := fun W X gx k hI h2 => by
    have hX := hI.l
    have := rounded_any gx 0 k X W h2.h (by omega) (by omega) (fun s hs => bd_le ((bnds X hI).2.2.1 s (by omega)) (by decide))
    rw [hX] at this
    refine this.mono fun e w' ⟨⟨g, k, e1, e2, e3⟩, hw⟩ => ⟨⟨g, k, by rw [e1, tab_len], e2, e3⟩, hw⟩
  have d7 : ∀ (W : World) (X : List Sp) (gx gy k j : Nat), Inv (4 * ma) n (arms a b c L L.length) B X → Inv (4 * ma) n (arms a b c L L.length) B (lnL n 1 1 X (cor ma n (arms a b c L L.length) B X)) → gy ≠ gx → IBox W gx (fl X) → IBox W gy (fl (cor ma n (arms a b c L L.length) B X)) → Calls Try.prog 96 #[.slice (some ⟨gx, 0, none⟩) n k, .int .i64 1, .slice (some ⟨gy, 0, none⟩) n j] W fun e w' => e = .returned (.tuple #[]) ∧ IBox w' gx (fl (lnL n 1 1 X (cor ma n (arms a b c L L.length) B X))) ∧ W.grownBy w' (some gx) := fun W X gx gy k j hI hI2 hne h1 h2 => by
    have hl : (cor ma n (arms a b c L L.length) B X).length = n := cor_len _ _ _ _ _
    have hX := hI.l
    have := addV_any 1 gx k (some ⟨gy, 0, none⟩) j X _ W h1 (.inr ⟨gy, 0, rfl, h2.h⟩) (fun b' o' h => by cases h; exact hne) (by omega) (by omega)
    rw [hl, prog_add hX (bnds _ hI2).2.2.1 (by decide)] at this
    exact this
  have hi0 : Inv (4 * ma) n (arms a b c L L.length) B (List.replicate n zs) := inv_start hn
  have cl : ∀ X, (cor ma n (arms a b c L L.length) B X).length = n := fun X => cor_len _ _ _ _ _
  have hgl := hH.lt
  have hbl := fl_lt hB (by omega)
  have HB := Lib.hid hB
  have HH := Lib.hid hH
  have HST := Lib.hid stp
  have HI0 := Lib.hid hi0
  have HCL := Lib.hid cl
  have hb0 : Below w.heap.size w (w.alloc (.cells (madeCells sz.toArray (n * 4)) 95)) := by repeat (first | (with_reducible exact Below.refl _ _) | (with_reducible refine Below.setCell ?_ ?_ _) | (with_reducible refine Below.drew ?_) | (with_reducible refine Below.alloc ?_ ?_ _) | omega | (simp <;> omega))
  have hA : IBox (w.alloc (.cells (madeCells sz.toArray (n * 4)) 95)) w.heap.size (fl (List.replicate n zs)) := IBox.madeS (T := 95) (heap_alloc_new _ _) (by simp)
  have HB0 := Lib.hid hb0
  have HA := Lib.hid hA
  clear hF hm hH hB hn hO hBs hBb bnds stp hi0 hb0 hA cl hpos hll hm1 mm ea hD
  generalize arms a b c L L.length = A at *
  go_enter Try.func58, Try.ntmps58
  go_wp2
  generalize w.alloc (.cells (madeCells sz.toArray (n * 4)) 95) = Wa at *
  go_loopw [7, 8] (fun _ _ wr => ∃ X : List Sp, Hid (Inv (4 * ma) n A B X) ∧ Hid (IBox wr w.heap.size (fl X)) ∧ Hid (Below w.heap.size w wr)) (fun _ _ wr => lefM ma n A B (memS wr w.heap.size n))
  case atStart => exact ⟨_, HI0, HA, HB0⟩
  case round =>
    obtain ⟨X, HI, HX, HW⟩ := hrel
    clear HA HB0 HI0
    have hmes := Lib.hid (memS_of HX.out HI.out.l)
    have hwr := HX.out.lt
    have z0 := HW.out.size
    go_wp2_with (fail)
    refine (d1 _ X _ _ HI.out (HH.out.later HW.out) HX.out).mono ?_
    rintro e w1 ⟨⟨g1, k1, rfl, hb1, hg1⟩, hw1⟩
    have X1 := Lib.hid (HX.out.later hw1)
    have W1 := Lib.hid (HW.out.trans (hw1.mono HW.out.size))
    have Y1 := Lib.hid hb1
    clear hb1 hw1 hg1
    go_wp2_with (fail)
    refine (d2 _ X _ _ HI.out (HB.out.later W1.out) Y1.out).mono ?_
    rintro e w2 ⟨⟨g2, k2, rfl, hb2, hg2⟩, hw2⟩
    have X2 := Lib.hid (X1.out.later hw2)
    have W2 := Lib.hid (W1.out.trans (hw2.mono W1.out.size))
    have Y2 := Lib.hid hb2
    clear hb2 hw2 hg2 X1 W1 Y1
    go_wp2_with (fail)
    refine (d3 _ X _ _ HI.out (HH.out.later W2.out) Y2.out).mono ?_
    rintro e w3 ⟨⟨g3, k3, rfl, hb3, hg3⟩, hw3⟩
    have X3 := Lib.hid (X2.out.later hw3)
    have W3 := Lib.hid (W2.out.trans (hw3.mono W2.out.size))
    have Y3 := Lib.hid hb3
    clear hb3 hw3 hg3 X2 W2 Y2
    go_wp2_with (fail)
    refine (d4 _ X _ _ HI.out Y3.out).mono ?_
    rintro e w4 ⟨⟨g4, k4, rfl, hb4, hg4⟩, hw4⟩
    have X4 := Lib.hid (X3.out.later hw4)
    have W4 := Lib.hid (W3.out.trans (hw4.mono W3.out.size))
    have Y4 := Lib.hid hb4
    have G4 := Lib.hid (show w.heap.size < g4 by have := X3.out.lt; omega)
    clear hb4 hw4 hg4 X3 W3 Y3
    rcases inR_zero (HCL.out X) with ⟨hr, hz⟩ | ⟨hr, hz⟩
    · go_wp2_with (fail)
      refine (d5 _ _ _ _ true (HCL.out X) hr Y4.out).mono ?_
      rintro e w5 ⟨rfl, hw5⟩
      have HZ := Lib.hid hz
      have X5 := Lib.hid (X4.out.later hw5)
      have W5 := Lib.hid (W4.out.trans (hw5.mono W4.out.size))
      clear hw5 X4 W4 Y4 hr hz
      go_wp2_with (fail)
      refine (d6 _ X _ _ HI.out X5.out).mono ?_
      rintro e w6 ⟨⟨g6, k6, rfl, hb6, hg6⟩, hw6⟩
      have W6 := Lib.hid (W5.out.trans (hw6.mono W5.out.size))
      have Y6 := Lib.hid hb6
      have G6 := Lib.hid (show w.heap.size ≤ g6 by have := X5.out.lt; omega)
      clear hb6 hw6 hg6 X5 W5
      go_wp2
      exact ⟨rfl, ⟨g6, k6, X, rfl, Y6.out.h, G6.out, HI.out, HZ.out⟩, W6.out⟩
    · obtain ⟨hI2, hlt⟩ := HST.out X HI.out hz
      have I2 := Lib.hid hI2
      have LT := Lib.hid hlt
      clear hI2 hlt
      go_wp2_with (fail)
      refine (d5 _ _ _ _ false (HCL.out X) hr Y4.out).mono ?_
      rintro e w5 ⟨rfl, hw5⟩
      have X5 := Lib.hid (X4.out.later hw5)
      have Y5 := Lib.hid (Y4.out.later hw5)
      have W5 := Lib.hid (W4.out.trans (hw5.mono W4.out.size))
      clear hw5 X4 W4 Y4 hr hz
      go_wp2_with (fail)
      refine (d7 _ X _ _ _ _ HI.out I2.out (by have := G4.out; omega) X5.out Y5.out).mono ?_
      rintro e w6 ⟨rfl, hb6, hw6⟩
      have X6 := Lib.hid hb6
      have W6 := Lib.hid (W5.out.grown hw6 W5.out.size (fun j hj => by cases hj; exact Nat.le_refl _))
      clear hb6 hw6 X5 Y5 W5
      go_wp2
      exact ⟨⟨_, I2, X6, W6⟩, by rw [hmes.out, memS_of X6.out (lnL_len _ _ _ _ _)]; exact LT.out⟩
end Go.Proofs.Ytojmagooapjohaa

/- Solve: the errors, and the solution with which the solver stops.
Conditions: those written at each theorem. -/
namespace Go.Proofs.Ytojmagooapjohaa
set_option linter.unusedVariables false
set_option linter.unusedSimpArgs false
set_option maxRecDepth 1000000
open Go.RowKit
open Um Tm Fm

theorem ta_stop (sv : Value) (w : World) : (Instr.typeAssert (.iface 108 (.agg #[sv])) 20 108 true).run Try.prog w = .ok (.tuple #[.agg #[sv], .bool true]) w := by kernel_rfl
theorem catch7 (p : Addr) (x : Value) (g n k : Nat) (older : List PanicEntry) (w : World) (hc : w.cell? p = some x) (hz : w.frozen? p = false) (hp : p.block < w.heap.size) :
    CallsD Try.prog 57 #[.pointer (some p)] (.panicking ({ v := .iface 108 (.agg #[.slice (some ⟨g, 0, none⟩) n k]), recovered := false } :: older)) w fun e u' w' =>
      e = .returned (.tuple #[]) ∧ u' = .panicking ({ v := .iface 108 (.agg #[.slice (some ⟨g, 0, none⟩) n k]), recovered := true } :: older) ∧ w' = (w.alloc (.cells #[.slice (some ⟨g, 0, none⟩) n k] 108)).setCell p (.slice (some ⟨g, 0, none⟩) n k) := by
  have hb : Below w.heap.size w (w.alloc (.cells #[.slice (some ⟨g, 0, none⟩) n k] 108)) := by repeat (first | (with_reducible exact Below.refl _ _) | (with_reducible refine Below.setCell ?_ ?_ _) | (with_reducible refine Below.drew ?_) | (with_reducible refine Below.alloc ?_ ?_ _) | omega | (simp <;> omega))
  have hc2 : (w.alloc (.cells #[.slice (some ⟨g, 0, none⟩) n k] 108)).cell? p = some x := (hb.cell hp).trans hc
  have hz2 : (w.alloc (.cells #[.slice (some ⟨g, 0, none⟩) n k] 108)).frozen? p = false := (World.frozen?_alloc_old w _ p (by omega)).trans hz
  refine callsD_of_wpS Try.func57 rfl fun c₀ cs hu => ?_
  apply wpS_seq
  apply wpS_region
  simp [wpOpsS, go_sem, recoverD, hu, ta_stop, Try.ntmps57, Exit.thenS]
  apply wpS_seq
  apply wpS_region
  simp [wpOpsS, go_sem, Exit.thenS]
  refine wpS_cond (t := true) (by simp [Act.eval, Array.replicate]) ?_
  simp only [if_true]
  apply wpS_region
  simp [wpOpsS, go_sem, hc2, hz2, bodyPostS, results, Try.results57]
/-- the first error of a field, a mass and a source -/
def soR (m : Nat) (M : List Sp) (r0 ma r : Int) : Prop := ∃ r1, ms1 m M r0 ma r1 ∧ ((r1 ≠ 0 ∧ r = r1) ∨ (r1 = 0 ∧ ((AllE 1048576 M ∧ r = 0) ∨ (¬ AllE 1048576 M ∧ r = 1))))
theorem soR_ex (m : Nat) (M : List Sp) (r0 ma : Int) : ∃ r, soR m M r0 ma r := by
  obtain ⟨r1, h1⟩ := ms1_ex m M r0 ma
  by_cases h : r1 = 0
  · by_cases h2 : AllE 1048576 M
    · exact ⟨0, r1, h1, .inr ⟨h, .inl ⟨h2, rfl⟩⟩⟩
    · exact ⟨1, r1, h1, .inr ⟨h, .inr ⟨h2, rfl⟩⟩⟩
  · exact ⟨r1, r1, h1, .inl ⟨h, rfl⟩⟩
set_option maxHeartbeats 1600000 in
theorem solve_e1 (a b c r0 ma r : Int) (ao po : Option Addr) (cap pc : Nat) (L : List Q) (ns : List Int) (M : List Sp) (w : World) (h : LiesO w ao L) (hp : LiesOI w po (fl M)) (hr : numsR a b c L ns r0) (hv : ms1 L.length M r0 ma r) (hne : r ≠ 0) (hlen : L.length ≤ 1000000) (hlm : M.length ≤ 1000000) : Calls Try.prog 24 #[.agg #[.int .i64 a, .int .i64 b, .int .i64 c, .slice ao L.length cap], .int .i64 ma, .slice po M.length pc] w fun e w' => e = .returned (.tuple #[.slice none 0 0, .int .i64 r]) ∧ Below w.heap.size w w' := by
  have H := Lib.hid h
  have HP := Lib.hid hp
  have c1 : ∀ (W : World) (sb : Nat), LiesO W ao L → LiesOI W po (fl M) → W.cell? ⟨sb, 0, none⟩ = some (.slice po M.length pc) → Calls Try.prog 54 #[.agg #[.int .i64 a, .int .i64 b, .int .i64 c, .slice ao L.length cap], .int .i64 ma, .slice (some ⟨sb, 0, none⟩) 1 1] W fun e w' => e = .returned (.tuple #[.slice none 0 0, .int .i64 r]) ∧ Below W.heap.size W w' := fun W sb k1 k2 k3 => start1_bad a b c r0 ma r ao po cap pc sb 0 L ns M W k1 k2 k3 hr hv hne hlen hlm
  have t1 : (r != 0) = true := by simpa using hne
  clear h hp hr hv hne
  go_enter_defers Try.func24, Try.ntmps24
  go_wp2_with (fail)
  refine (c1 _ _ (H.out.later (by repeat (first | (with_reducible exact Below.refl _ _) | (with_reducible refine Below.setCell ?_ ?_ _) | (with_reducible refine Below.drew ?_) | (with_reducible refine Below.alloc ?_ ?_ _) | omega | (simp <;> omega)))) (HP.out.later (by repeat (first | (with_reducible exact Below.refl _ _) | (with_reducible refine Below.setCell ?_ ?_ _) | (with_reducible refine Below.drew ?_) | (with_reducible refine Below.alloc ?_ ?_ _) | omega | (simp <;> omega)))) (by simp [go_sem])).mono ?_
  rintro e w1 ⟨rfl, hw1⟩
  have hc1 := Tail.cells hw1
  have zw10 := Nat.lt_of_lt_of_le (n := w.heap.size) (by simp <;> omega) hw1.size; have zw11 := Nat.lt_of_lt_of_le (n := w.heap.size + 1) (by simp <;> omega) hw1.size
  have k1 : w1.cell? ⟨w.heap.size + 1, 0, none⟩ = some (.slice none 0 0) := (hc1.1 _ _ (by simp <;> omega)).trans (by simp [go_sem])
  have k2 : w1.frozen? ⟨w.heap.size + 1, 0, none⟩ = false := (hc1.2 _ _ (by simp <;> omega)).trans (by simp [go_sem])
  go_wp2
  refine ⟨.tuple #[.slice none 0 0, .int .i64 r], ?_, rfl, by repeat (first | (with_reducible exact Below.refl _ _) | (with_reducible refine Below.setCell ?_ ?_ _) | (with_reducible refine Below.drew ?_) | (with_reducible refine Below.alloc ?_ ?_ _) | (with_reducible refine Below.trans ?_ (Below.mono hw1 ?_)) | (with_reducible exact hw1.size) | omega | (simp <;> omega) | (simp <;> (have s := hw1.size; omega)) | (have s0 := hw1.size; (try simp at s0); (try simp); omega))⟩
  have k3 : (w1.setCell ⟨w.heap.size + 1, 0, none⟩ (.slice none 0 0)).cell? ⟨w.heap.size + 1, 0, none⟩ = some (.slice none 0 0) := World.cell?_setCell_same w1 _ _ k1
  simp [results, Try.results24, go_sem, k3]
set_option maxHeartbeats 1600000 in
theorem solve_e2 (a b c ma : Int) (ao po : Option Addr) (cap pc n : Nat) (L : List Q) (ns : List Int) (M : List Sp) (w : World) (h : LiesO w ao L) (hp : LiesOI w po (fl M)) (hr : numsR a b c L ns 0) (hv : ms1 L.length M 0 ma 0) (hF : Fld7 a b c L n) (hlen : L.length ≤ 1000000) (hlm : M.length ≤ 1000000) (hb : ¬ AllE 1048576 M) : Calls Try.prog 24 #[.agg #[.int .i64 a, .int .i64 b, .int .i64 c, .slice ao L.length cap], .int .i64 ma, .slice po M.length pc] w fun e w' => e = .returned (.tuple #[.slice none 0 0, .int .i64 1]) ∧ Below w.heap.size w w' := by
  have H := Lib.hid h
  have HP := Lib.hid hp
  have c1 : ∀ (W : World) (sb : Nat), LiesO W ao L → LiesOI W po (fl M) → W.cell? ⟨sb, 0, none⟩ = some (.slice po M.length pc) → Calls Try.prog 54 #[.agg #[.int .i64 a, .int .i64 b, .int .i64 c, .slice ao L.length cap], .int .i64 ma, .slice (some ⟨sb, 0, none⟩) 1 1] W fun e w' => RetH W.heap.size n (row (arms a b c L L.length)) e w' ∧ Below W.heap.size W w' := fun W sb k1 k2 k3 => start1_ok a b c 0 ma ao po cap pc sb 0 L ns M W k1 k2 k3 hr hv n hF hlm
  have c2 : ∀ W : World, LiesOI W po (fl M) → Calls Try.prog 56 #[.slice po M.length pc, .int .i64 1048576] W fun e w' => e = .returned (.bool false) ∧ Below W.heap.size W w' := fun W k => isWithin7_any 1048576 po M pc W false k (by decide) (by decide) hlm (.inr ⟨hb, rfl⟩)
  clear h hp hr hv hF hb
  go_enter_defers Try.func24, Try.ntmps24
  go_wp2_with (fail)
  refine (c1 _ _ (H.out.later (by repeat (first | (with_reducible exact Below.refl _ _) | (with_reducible refine Below.setCell ?_ ?_ _) | (with_reducible refine Below.drew ?_) | (with_reducible refine Below.alloc ?_ ?_ _) | omega | (simp <;> omega)))) (HP.out.later (by repeat (first | (with_reducible exact Below.refl _ _) | (with_reducible refine Below.setCell ?_ ?_ _) | (with_reducible refine Below.drew ?_) | (with_reducible refine Below.alloc ?_ ?_ _) | omega | (simp <;> omega)))) (by simp [go_sem])).mono ?_
  rintro e w1 ⟨⟨g, vs, rfl, hH, hg⟩, hw1⟩
  have hc1 := Tail.cells hw1
  have zw10 := Nat.lt_of_lt_of_le (n := w.heap.size) (by simp <;> omega) hw1.size; have zw11 := Nat.lt_of_lt_of_le (n := w.heap.size + 1) (by simp <;> omega) hw1.size
  have k1 : w1.cell? ⟨w.heap.size + 1, 0, none⟩ = some (.slice none 0 0) := (hc1.1 _ _ (by simp <;> omega)).trans (by simp [go_sem])
  have k2 : w1.frozen? ⟨w.heap.size + 1, 0, none⟩ = false := (hc1.2 _ _ (by simp <;> omega)).trans (by simp [go_sem])
  have B1 : Below w.heap.size w w1 := by repeat (first | (with_reducible exact Below.refl _ _) | (with_reducible refine Below.setCell ?_ ?_ _) | (with_reducible refine Below.drew ?_) | (with_reducible refine Below.alloc ?_ ?_ _) | (with_reducible refine Below.trans ?_ (Below.mono hw1 ?_)) | (with_reducible exact hw1.size) | omega | (simp <;> omega) | (simp <;> (have s := hw1.size; omega)) | (have s0 := hw1.size; (try simp at s0); (try simp); omega))
  clear hc1 hH hg hw1
  go_wp2_with (fail)
  refine (c2 _ (HP.out.later B1)).mono ?_
  rintro e w2 ⟨rfl, hw2⟩
  have hc2 := Tail.cells hw2
  have k3 : w2.cell? ⟨w.heap.size + 1, 0, none⟩ = some (.slice none 0 0) := (hc2.1 _ _ zw11).trans k1
  have k4 : w2.frozen? ⟨w.heap.size + 1, 0, none⟩ = false := (hc2.2 _ _ zw11).trans k2
  clear hc2 k1 k2
  go_wp2
  refine ⟨.tuple #[.slice none 0 0, .int .i64 1], ?_, rfl, by repeat (first | (with_reducible exact Below.refl _ _) | (with_reducible refine Below.setCell ?_ ?_ _) | (with_reducible refine Below.drew ?_) | (with_reducible refine Below.alloc ?_ ?_ _) | (with_reducible refine Below.trans ?_ (Below.mono hw2 ?_)) | (with_reducible refine Below.trans ?_ (Below.mono B1 ?_)) | (with_reducible exact hw2.size) | (with_reducible exact B1.size) | omega | (simp <;> omega) | (simp <;> (have s := hw2.size; omega)) | (simp <;> (have s := B1.size; omega)) | (have s0 := hw2.size; (try simp at s0); have s1 := B1.size; (try simp at s1); (try simp); omega))⟩
  have k5 : (w2.setCell ⟨w.heap.size + 1, 0, none⟩ (.slice none 0 0)).cell? ⟨w.heap.size + 1, 0, none⟩ = some (.slice none 0 0) := World.cell?_setCell_same w2 _ _ k3
  simp [results, Try.results24, go_sem, k5]
theorem src_bd {n : Nat} {M : List Sp} (hn : M.length = n) (h : AllE 1048576 M) : ∀ s, s < n → Bd 1048576 (at0 M s) := fun s hs => by
  have hx := List.getElem?_eq_getElem (show s < M.length by omega)
  rw [at0_of hx]
  exact h _ _ hx
theorem src_mul {n : Nat} {M : List Sp} (hn : M.length = n) (h : AllE 1048576 M) : mulL 65536 M = tab n (fun s => smS 65536 (at0 M s)) ∧ ∀ s, s < n → Bd 68719476736 (at0 (tab n (fun s => smS 65536 (at0 M s))) s) := by
  have hb : ∀ s, s < n → Bd 68719476736 (smS 65536 (at0 M s)) := fun s hs => by
    obtain ⟨⟨a1, a2⟩, ⟨b1, b2⟩, ⟨c1, c2⟩, d1, d2⟩ := src_bd hn h s hs
    unfold smS Bd
    dsimp only
    refine ⟨⟨?_, ?_⟩, ⟨?_, ?_⟩, ⟨?_, ?_⟩, ?_, ?_⟩ <;> omega
  refine ⟨?_, fun s hs => by rw [at0_tab _ hs]; exact hb s hs⟩
  unfold mulL
  rw [hn]
  exact tab_congr fun s hs => bd_w (hb s hs) (by decide)
/-- the solution that is found -/
def RetSo (m : Nat) (ma : Int) (n : Nat) (A : List Arm) (M : List Sp) (e : Ending) (w' : World) : Prop := ∃ (g k : Nat) (X : List Sp), e = .returned (.tuple #[.slice (some ⟨g, 0, none⟩) n k, .int .i64 0]) ∧ LiesI w' g 0 (fl (rdL n X)) ∧ m ≤ g ∧ Inv (4 * ma) n A (tab n (fun s => smS 65536 (at0 M s))) X ∧ ∀ s, s < n → at0 (cor ma n A (tab n (fun s => smS 65536 (at0 M s))) X) s = zs
theorem src_sq {n : Nat} (hn : n ≤ 16) {f : Nat → Sp} (h : ∀ s, s < n → Bd 68719476736 (f s)) : sqF f n ≤ 549755813888 * 549755813888 := by
  have := sq_of_bd n h
  have h2 : (n : Int) * (4 * (68719476736 * 68719476736)) ≤ 16 * (4 * (68719476736 * 68719476736)) := Int.mul_le_mul_of_nonneg_right (by omega) (by decide)
  omega
set_option maxHeartbeats 3200000 in
theorem solve_ok (a b c ma : Int) (ao po : Option Addr) (cap pc n : Nat) (L : List Q) (ns : List Int) (M : List Sp) (w : World) (h : LiesO w ao L) (hp : LiesOI w po (fl M)) (hr : numsR a b c L ns 0) (hv : ms1 L.length M 0 ma 0) (hF : Fld7 a b c L n) (hlen : L.length ≤ 1000000) (hlm : M.length ≤ 1000000) (hb : AllE 1048576 M) (hO : One4 L) : Calls Try.prog 24 #[.agg #[.int .i64 a, .int .i64 b, .int .i64 c, .slice ao L.length cap], .int .i64 ma, .slice po M.length pc] w fun e w' => RetSo w.heap.size ma n (arms a b c L L.length) M e w' ∧ Below w.heap.size w w' := by
  have hpos := hF.pos
  have hll := hF.l
  have hMl := (ms1_ok hv).2.1
  have hma := (ms1_ok hv).2.2.2
  have hn : M.length = n := by omega
  obtain ⟨pb, po2, rfl, hP⟩ := lies_some hp (List.getElem?_eq_getElem (show 0 < M.length by omega))
  have H := Lib.hid h
  have HP := Lib.hid hP
  obtain ⟨em, bm⟩ := src_mul hn hb
  have c1 : ∀ (W : World) (sb : Nat), LiesO W ao L → LiesI W pb po2 (fl M) → W.cell? ⟨sb, 0, none⟩ = some (.slice (some ⟨pb, po2, none⟩) n pc) → Calls Try.prog 54 #[.agg #[.int .i64 a, .int .i64 b, .int .i64 c, .slice ao L.length cap], .int .i64 ma, .slice (some ⟨sb, 0, none⟩) 1 1] W fun e w' => RetH W.heap.size n (row (arms a b c L L.length)) e w' ∧ Below W.heap.size W w' := fun W sb k1 k2 k3 => start1_ok a b c 0 ma ao (some ⟨pb, po2, none⟩) cap pc sb 0 L ns M W k1 (.inr ⟨pb, po2, rfl, k2⟩) (by rw [hn]; exact k3) hr hv n hF hlm
  have c2 : ∀ W : World, LiesI W pb po2 (fl M) → Calls Try.prog 56 #[.slice (some ⟨pb, po2, none⟩) n pc, .int .i64 1048576] W fun e w' => e = .returned (.bool true) ∧ Below W.heap.size W w' := fun W k => by
    have := isWithin7_any 1048576 (some ⟨pb, po2, none⟩) M pc W true (.inr ⟨pb, po2, rfl, k⟩) (by decide) (by decide) hlm (.inl ⟨hb, rfl⟩)
    rwa [hn] at this
  have c3 : ∀ W : World, LiesI W pb po2 (fl M) → Calls Try.prog 59 #[.int .i64 65536, .slice (some ⟨pb, po2, none⟩) n pc] W fun e w' => GotV W.heap.size n (tab n (fun s => smS 65536 (at0 M s))) e w' ∧ Below W.heap.size W w' := fun W k => by
    have := multiple_any 65536 pb po2 pc M W k (by omega) hlm
    rw [em, hn] at this
    exact this.mono fun e w' ⟨⟨g, k, e1, e2, e3⟩, hw⟩ => ⟨⟨g, k, by rw [e1, tab_len], e2, e3⟩, hw⟩
  have c4 : ∀ (W : World) (base g bb k : Nat) (vs : Nat → Value), Hp W base g n vs (row (arms a b c L L.length)) → LiesI W bb 0 (fl (tab n (fun s => smS 65536 (at0 M s)))) → Calls Try.prog 58 #[.slice (some ⟨g, 0, none⟩) n n, .int .i64 ma, .slice (some ⟨bb, 0, none⟩) n k] W fun e w' => RetP W.heap.size ma n (arms a b c L L.length) (tab n (fun s => smS 65536 (at0 M s))) e w' ∧ Below W.heap.size W w' := fun W base g bb k vs h1 h2 => solve7_any a b c ma L base g n n bb 0 k vs _ W hF hma h1 h2 (tab_len _ _) hO (src_sq hpos.2 bm) (fun s hs => bd_le (bm s hs) (by decide))
  rw [hn]
  generalize hBe : tab n (fun s => smS 65536 (at0 M s)) = B at *
  have HE := Lib.hid hBe
  clear hBe
  generalize arms a b c L L.length = A at *
  have hmf : ∀ (fn : Fn) (first cap : Array Value) (w : World), (Instr.makeFunc fn first cap).run Try.prog w = .ok (.func fn first cap) w := fun _ _ _ _ => rfl
  clear h hp hP hr hv hF hb hO hpos hll hMl hma hn em bm hlen hlm
  go_enter_defers Try.func24, Try.ntmps24
  go_wp2_with (fail)
  refine (c1 _ _ (H.out.later (by repeat (first | (with_reducible exact Below.refl _ _) | (with_reducible refine Below.setCell ?_ ?_ _) | (with_reducible refine Below.drew ?_) | (with_reducible refine Below.alloc ?_ ?_ _) | omega | (simp <;> omega)))) (HP.out.later (by repeat (first | (with_reducible exact Below.refl _ _) | (with_reducible refine Below.setCell ?_ ?_ _) | (with_reducible refine Below.drew ?_) | (with_reducible refine Below.alloc ?_ ?_ _) | omega | (simp <;> omega)))) (by simp [go_sem])).mono ?_
  rintro e w1 ⟨⟨g, vs, rfl, hH, hg⟩, hw1⟩
  have hc1 := Tail.cells hw1
  have zw10 := Nat.lt_of_lt_of_le (n := w.heap.size) (by simp <;> omega) hw1.size; have zw11 := Nat.lt_of_lt_of_le (n := w.heap.size + 1) (by simp <;> omega) hw1.size
  have k1 : w1.cell? ⟨w.heap.size + 1, 0, none⟩ = some (.slice none 0 0) := (hc1.1 _ _ (by simp <;> omega)).trans (by simp [go_sem])
  have k2 : w1.frozen? ⟨w.heap.size + 1, 0, none⟩ = false := (hc1.2 _ _ (by simp <;> omega)).trans (by simp [go_sem])
  have B1 : Below w.heap.size w w1 := by repeat (first | (with_reducible exact Below.refl _ _) | (with_reducible refine Below.setCell ?_ ?_ _) | (with_reducible refine Below.drew ?_) | (with_reducible refine Below.alloc ?_ ?_ _) | (with_reducible refine Below.trans ?_ (Below.mono hw1 ?_)) | (with_reducible exact hw1.size) | omega | (simp <;> omega) | (simp <;> (have s := hw1.size; omega)) | (have s0 := hw1.size; (try simp at s0); (try simp); omega))
  have HH1 := Lib.hid hH
  clear hc1 hH hg hw1
  go_wp2_with (fail)
  refine (c2 _ (HP.out.later B1)).mono ?_
  rintro e w2 ⟨rfl, hw2⟩
  have hc2 := Tail.cells hw2
  have k3 : w2.cell? ⟨w.heap.size + 1, 0, none⟩ = some (.slice none 0 0) := (hc2.1 _ _ zw11).trans k1
  have k4 : w2.frozen? ⟨w.heap.size + 1, 0, none⟩ = false := (hc2.2 _ _ zw11).trans k2
  have zw21 := Nat.lt_of_lt_of_le zw11 hw2.size
  have B2 : Below w.heap.size w w2 := B1.trans (hw2.mono B1.size)
  have HH2 := Lib.hid (HH1.out.later hw2)
  clear hc2 k1 k2 hw2 B1 HH1
  go_wp2_with (fail)
  refine (c3 _ (HP.out.later B2)).mono ?_
  rintro e w3 ⟨⟨g3, j3, rfl, hb3, hg3⟩, hw3⟩
  have hc3 := Tail.cells hw3
  have k5 : w3.cell? ⟨w.heap.size + 1, 0, none⟩ = some (.slice none 0 0) := (hc3.1 _ _ zw21).trans k3
  have k6 : w3.frozen? ⟨w.heap.size + 1, 0, none⟩ = false := (hc3.2 _ _ zw21).trans k4
  have zw31 := Nat.lt_of_lt_of_le zw21 hw3.size
  have B3 : Below w.heap.size w w3 := B2.trans (hw3.mono B2.size)
  have HH3 := Lib.hid (HH2.out.later hw3)
  have HB3 := Lib.hid hb3
  clear hc3 k3 k4 hw3 B2 HH2 hb3 hg3
  go_wp2_with (fail)
  refine (c4 _ _ _ _ _ _ HH3.out HB3.out.h).mono ?_
  rintro e w4 ⟨⟨g4, j4, X, rfl, hb4, hg4, hI, hz⟩, hw4⟩
  have hc4 := Tail.cells hw4
  have k7 : w4.cell? ⟨w.heap.size + 1, 0, none⟩ = some (.slice none 0 0) := (hc4.1 _ _ zw31).trans k5
  have k8 : w4.frozen? ⟨w.heap.size + 1, 0, none⟩ = false := (hc4.2 _ _ zw31).trans k6
  have zw41 := Nat.lt_of_lt_of_le zw31 hw4.size
  have B4 : Below w.heap.size w w4 := B3.trans (hw4.mono B3.size)
  have hg4' : w.heap.size + 1 < g4 := by omega
  have HX4 := Lib.hid hb4
  clear hc4 k5 k6 hw4 B3 HH3 HB3 hb4
  go_wp2
  refine leaves_cons (f := 57) (args := #[.pointer (some ⟨w.heap.size + 1, 0, none⟩)]) (by simp) (by simp [go_sem]) ?_
  refine (catch7 ⟨w.heap.size + 1, 0, none⟩ _ g4 n j4 [] w4 k7 k8 zw41).mono ?_
  rintro e u' w5 ⟨rfl, rfl, rfl⟩
  have ba : Below w4.heap.size w4 (w4.alloc (.cells #[.slice (some ⟨g4, 0, none⟩) n j4] 108)) := by repeat (first | (with_reducible exact Below.refl _ _) | (with_reducible refine Below.setCell ?_ ?_ _) | (with_reducible refine Below.drew ?_) | (with_reducible refine Below.alloc ?_ ?_ _) | omega | (simp <;> omega))
  have k9 : (w4.alloc (.cells #[.slice (some ⟨g4, 0, none⟩) n j4] 108)).cell? ⟨w.heap.size + 1, 0, none⟩ = some (.slice none 0 0) := (ba.cell zw41).trans k7
  have k10 : ((w4.alloc (.cells #[.slice (some ⟨g4, 0, none⟩) n j4] 108)).setCell ⟨w.heap.size + 1, 0, none⟩ (.slice (some ⟨g4, 0, none⟩) n j4)).cell? ⟨w.heap.size + 1, 0, none⟩ = some (.slice (some ⟨g4, 0, none⟩) n j4) := World.cell?_setCell_same _ _ _ k9
  have hx5 : LiesI ((w4.alloc (.cells #[.slice (some ⟨g4, 0, none⟩) n j4] 108)).setCell ⟨w.heap.size + 1, 0, none⟩ (.slice (some ⟨g4, 0, none⟩) n j4)) g4 0 (fl (rdL n X)) := liesI_grown (HX4.out.later ba) (grown_setCell _ ⟨w.heap.size + 1, 0, none⟩ (.slice (some ⟨g4, 0, none⟩) n j4)) (by simp; omega)
  refine ⟨.tuple #[.slice (some ⟨g4, 0, none⟩) n j4, .int .i64 0], ?_, ⟨g4, j4, X, rfl, hx5, by omega, by rw [HE.out]; exact hI, by rw [HE.out]; exact hz⟩, by repeat (first | (with_reducible exact Below.refl _ _) | (with_reducible refine Below.setCell ?_ ?_ _) | (with_reducible refine Below.drew ?_) | (with_reducible refine Below.alloc ?_ ?_ _) | (with_reducible refine Below.trans ?_ (Below.mono B4 ?_)) | (with_reducible exact B4.size) | omega | (simp <;> omega) | (simp <;> (have s := B4.size; omega)) | (have s0 := B4.size; (try simp at s0); (try simp); omega))⟩
  simp [results, Try.results24, go_sem, k10]
end Go.Proofs.Ytojmagooapjohaa

/- The document's error of Solve.
Conditions: the lists lie in memory as it is written at each theorem. -/
namespace Go.Proofs.Ytojmagooapjohaa
set_option linter.unusedVariables false
set_option linter.unusedSimpArgs false
set_option maxRecDepth 1000000
open Go.RowKit
open Um Tm Fm

theorem so_vec {m : Nat} {M : List Sp} {r0 ma r1 r : Int} (h1 : ms1 m M r0 ma r1) (h : r1 = 0) (h2 : (AllE 1048576 M ∧ r = 0) ∨ (¬ AllE 1048576 M ∧ r = 1)) : vecR m M 1048576 r := by
  subst h
  have hl := (ms1_ok h1).2.1
  rcases h2 with ⟨h, rfl⟩ | ⟨h, rfl⟩
  · exact .inr (.inl ⟨hl, h, rfl⟩)
  · exact .inr (.inr ⟨hl, h, rfl⟩)
set_option maxHeartbeats 3200000 in
theorem sourced1_any (a b c r0 ma r : Int) (ao po : Option Addr) (cap pc sb : Nat) (L : List Q) (ns : List Int) (M : List Sp) (w : World) (h : LiesO w ao L) (hp : LiesOI w po (fl M)) (hs : w.cell? ⟨sb, 0, none⟩ = some (.slice po M.length pc)) (hr : numsR a b c L ns r0) (hv : soR L.length M r0 ma r) (hlen : L.length ≤ 1000000) (hlm : M.length ≤ 1000000) : Calls Try.prog 60 #[.agg #[.int .i64 a, .int .i64 b, .int .i64 c, .slice ao L.length cap], .int .i64 ma, .slice (some ⟨sb, 0, none⟩) 1 1] w fun e w' => e = .returned (.int .i64 r) ∧ Below w.heap.size w w' := by
  have hsl : sb < w.heap.size := World.block_lt_of_cell? _ _ hs
  have H := Lib.hid h
  have HP := Lib.hid hp
  have HS := Lib.hid (fun (W : World) (hb : Below w.heap.size w W) => (hb.cell (p := ⟨sb, 0, none⟩) hsl).trans hs)
  obtain ⟨r1, h1, hc⟩ := hv
  have c1 : ∀ (W : World), LiesO W ao L → LiesOI W po (fl M) → W.cell? ⟨sb, 0, none⟩ = some (.slice po M.length pc) → Calls Try.prog 101 #[.agg #[.int .i64 a, .int .i64 b, .int .i64 c, .slice ao L.length cap], .int .i64 ma, .slice (some ⟨sb, 0, none⟩) 1 1] W fun e w' => e = .returned (.int .i64 r1) ∧ Below W.heap.size W w' := fun W k1 k2 k3 => massive1_any a b c r0 ma r1 ao po cap pc sb 0 L ns M W k1 k2 k3 hr h1 hlen hlm
  rcases hc with ⟨h2, rfl⟩ | ⟨h2, h3⟩
  · have t1 : (r != 0) = true := by simpa using h2
    clear h hp hs hr h1 h2
    go_enter Try.func60, Try.ntmps60
    go_wp2_with ((with_reducible refine (c1 _ (H.out.later (by repeat (first | (with_reducible exact Below.refl _ _) | (with_reducible refine Below.setCell ?_ ?_ _) | (with_reducible refine Below.drew ?_) | (with_reducible refine Below.alloc ?_ ?_ _) | omega | (simp <;> omega)))) (HP.out.later (by repeat (first | (with_reducible exact Below.refl _ _) | (with_reducible refine Below.setCell ?_ ?_ _) | (with_reducible refine Below.drew ?_) | (with_reducible refine Below.alloc ?_ ?_ _) | omega | (simp <;> omega)))) (HS.out _ (by repeat (first | (with_reducible exact Below.refl _ _) | (with_reducible refine Below.setCell ?_ ?_ _) | (with_reducible refine Below.drew ?_) | (with_reducible refine Below.alloc ?_ ?_ _) | omega | (simp <;> omega))))).mono ?_); clear c1; rintro e w1 ⟨rfl, hw1⟩)
    go_ret
    exact ⟨rfl, by repeat (first | (with_reducible exact Below.refl _ _) | (with_reducible refine Below.setCell ?_ ?_ _) | (with_reducible refine Below.drew ?_) | (with_reducible refine Below.alloc ?_ ?_ _) | (with_reducible refine Below.trans ?_ (Below.mono hw1 ?_)) | (with_reducible exact hw1.size) | omega | (simp <;> omega) | (simp <;> (have s := hw1.size; omega)) | (have s0 := hw1.size; (try simp at s0); (try simp); omega))⟩
  · have hvec := so_vec h1 h2 h3
    subst h2
    have c2 := fun (W : World) (k1 : LiesOI W po (fl M)) => vector_any a b c 1048576 r ao po cap pc L M W k1 (by decide) (by decide) hlm hlen hvec
    clear h hp hs hr h1 h3 hvec
    have kc := @Tail.cell_re
    go_enter Try.func60, Try.ntmps60
    go_wp2_with ((with_reducible refine (c1 _ (H.out.later (by repeat (first | (with_reducible exact Below.refl _ _) | (with_reducible refine Below.setCell ?_ ?_ _) | (with_reducible refine Below.drew ?_) | (with_reducible refine Below.alloc ?_ ?_ _) | omega | (simp <;> omega)))) (HP.out.later (by repeat (first | (with_reducible exact Below.refl _ _) | (with_reducible refine Below.setCell ?_ ?_ _) | (with_reducible refine Below.drew ?_) | (with_reducible refine Below.alloc ?_ ?_ _) | omega | (simp <;> omega)))) (HS.out _ (by repeat (first | (with_reducible exact Below.refl _ _) | (with_reducible refine Below.setCell ?_ ?_ _) | (with_reducible refine Below.drew ?_) | (with_reducible refine Below.alloc ?_ ?_ _) | omega | (simp <;> omega))))).mono ?_); clear c1; rintro e w1 ⟨rfl, hw1⟩; have hc1 := Tail.cells hw1; have zw10 := Nat.lt_of_lt_of_le (n := w.heap.size) (by simp <;> omega) hw1.size)
    have hb1 : Below w.heap.size w w1 := by repeat (first | (with_reducible exact Below.refl _ _) | (with_reducible refine Below.setCell ?_ ?_ _) | (with_reducible refine Below.drew ?_) | (with_reducible refine Below.alloc ?_ ?_ _) | (with_reducible refine Below.trans ?_ (Below.mono hw1 ?_)) | (with_reducible exact hw1.size) | omega | (simp <;> omega) | (simp <;> (have s := hw1.size; omega)) | (have s0 := hw1.size; (try simp at s0); (try simp); omega))
    have HP1 := HP.out.later hb1
    have x1 := HS.out _ hb1
    have x2 : sb < w1.heap.size := Nat.lt_of_lt_of_le hsl hb1.size
    have f0 : w1.cell? ⟨w.heap.size, 0, none⟩ = some (.int .i64 a) := (hc1.1 _ _ (by simp <;> omega)).trans (by simp [go_sem])
    have f1 : w1.cell? ⟨w.heap.size, 1, none⟩ = some (.int .i64 b) := (hc1.1 _ _ (by simp <;> omega)).trans (by simp [go_sem])
    have f2 : w1.cell? ⟨w.heap.size, 2, none⟩ = some (.int .i64 c) := (hc1.1 _ _ (by simp <;> omega)).trans (by simp [go_sem])
    have f3 : w1.cell? ⟨w.heap.size, 3, none⟩ = some (.slice ao L.length cap) := (hc1.1 _ _ (by simp <;> omega)).trans (by simp [go_sem])
    clear hc1 hw1
    have HP1' := Lib.hid HP1
    refine Tail.region_below (by kernel_rfl) (by kernel_rfl) ?_
    repeat (go_big_quiet_step (first | (with_reducible exact Calls.regrown_of (c2 _ (liesOI_re HP1'.out _ _)))))
    refine wpQuiet_nil ?_
    intro w9 hw9
    go_wp2
    go_ret
    exact ⟨rfl, by repeat (first | (with_reducible exact Below.refl _ _) | (with_reducible refine Below.setCell ?_ ?_ _) | (with_reducible refine Below.drew ?_) | (with_reducible refine Below.alloc ?_ ?_ _) | (with_reducible refine Below.trans ?_ (Below.mono hw9 ?_)) | (with_reducible refine Below.trans ?_ (Below.mono hb1 ?_)) | (with_reducible exact hw9.size) | (with_reducible exact hb1.size) | omega | (simp <;> omega) | (simp <;> (have s := hw9.size; omega)) | (simp <;> (have s := hb1.size; omega)) | (have s0 := hw9.size; (try simp at s0); have s1 := hb1.size; (try simp at s1); (try simp); omega))⟩
set_option maxHeartbeats 1600000 in
theorem solveError_any (a b c r0 ma r : Int) (ao po : Option Addr) (cap pc : Nat) (L : List Q) (ns : List Int) (M : List Sp) (w : World) (h : LiesO w ao L) (hp : LiesOI w po (fl M)) (hr : numsR a b c L ns r0) (hv : soR L.length M r0 ma r) (hlen : L.length ≤ 1000000) (hlm : M.length ≤ 1000000) : Calls Try.prog 25 #[.agg #[.int .i64 a, .int .i64 b, .int .i64 c, .slice ao L.length cap], .int .i64 ma, .slice po M.length pc] w fun e w' => e = .returned (.int .i64 r) ∧ Below w.heap.size w w' := by
  have H := Lib.hid h
  have HP := Lib.hid hp
  have c1 : ∀ (W : World) (sb : Nat), LiesO W ao L → LiesOI W po (fl M) → W.cell? ⟨sb, 0, none⟩ = some (.slice po M.length pc) → Calls Try.prog 60 #[.agg #[.int .i64 a, .int .i64 b, .int .i64 c, .slice ao L.length cap], .int .i64 ma, .slice (some ⟨sb, 0, none⟩) 1 1] W fun e w' => e = .returned (.int .i64 r) ∧ Below W.heap.size W w' := fun W sb k1 k2 k3 => sourced1_any a b c r0 ma r ao po cap pc sb L ns M W k1 k2 k3 hr hv hlen hlm
  clear h hp hr hv
  go_enter Try.func25, Try.ntmps25
  go_wp2_with ((with_reducible refine (c1 _ _ (H.out.later (by repeat (first | (with_reducible exact Below.refl _ _) | (with_reducible refine Below.setCell ?_ ?_ _) | (with_reducible refine Below.drew ?_) | (with_reducible refine Below.alloc ?_ ?_ _) | omega | (simp <;> omega)))) (HP.out.later (by repeat (first | (with_reducible exact Below.refl _ _) | (with_reducible refine Below.setCell ?_ ?_ _) | (with_reducible refine Below.drew ?_) | (with_reducible refine Below.alloc ?_ ?_ _) | omega | (simp <;> omega)))) (by simp [go_sem])).mono ?_); clear c1; rintro e w1 ⟨rfl, hw1⟩)
  go_ret
  exact ⟨rfl, by repeat (first | (with_reducible exact Below.refl _ _) | (with_reducible refine Below.setCell ?_ ?_ _) | (with_reducible refine Below.drew ?_) | (with_reducible refine Below.alloc ?_ ?_ _) | (with_reducible refine Below.trans ?_ (Below.mono hw1 ?_)) | (with_reducible exact hw1.size) | omega | (simp <;> omega) | (simp <;> (have s := hw1.size; omega)) | (have s0 := hw1.size; (try simp at s0); (try simp); omega))⟩
/-! ### the solution is accepted -/
theorem two_four : ∀ k ∈ List.range 24, dot4 (tw (small (k : Nat))) (tw (small (k : Nat))) = 4 := by decide +kernel
theorem nums_one4 {a b c : Int} {L : List Q} {ns : List Int} (h : numsR a b c L ns 0) : One4 L := fun x hx => by
  rcases h with ⟨_, h, _⟩ | ⟨_, ⟨hn, _⟩ | ⟨_, h⟩⟩
  · exact absurd rfl h
  · rcases hn with ⟨_, hn⟩ | ⟨h, _⟩
    · obtain ⟨i, hi, rfl⟩ := List.getElem_of_mem hx
      obtain ⟨m, -, hm⟩ := hn.2 i _ hi (List.getElem?_eq_getElem hi)
      rcases hm with ⟨k, hk, he, -, -, -⟩ | ⟨-, -, h⟩
      · rw [← he]; exact two_four k (List.mem_range.2 hk)
      · cases h
    · cases h
  · cases h
theorem alle_of {n : Nat} {M : List Sp} {K m : Int} (hn : M.length = n) (h : ∀ s, s < n → Bd K (at0 M s)) (hK : K ≤ m) : AllE m M := fun i x hx => by
  have hi := (List.getElem?_eq_some_iff.1 hx).1
  have := bd_le (h i (by omega)) hK
  rw [at0_of hx] at this
  exact this
theorem sol_good {a b c ma : Int} {n : Nat} {L : List Q} {ns : List Int} {M X : List Sp} (hr : numsR a b c L ns 0) (hF : Fld7 a b c L n) (hv : ms1 L.length M 0 ma 0) (hs : AllE 1048576 M) (hI : Inv (4 * ma) n (arms a b c L L.length) (tab n (fun s => smS 65536 (at0 M s))) X) (hc : ∀ s, s < n → at0 (cor ma n (arms a b c L L.length) (tab n (fun s => smS 65536 (at0 M s))) X) s = zs) :
    AllE mE (rdL n X) ∧ rmR L.length (rdL n X) M 0 ma 0 ∧ chR (remL ma n (arms a b c L L.length) (rdL n X) M) ((4 * ma + 16) * (4 * ma + 16) * 4 * (a * b * c)) 0 := by
  have hpos := hF.pos
  have hll := hF.l
  have hMl := (ms1_ok hv).2.1
  have hma := (ms1_ok hv).2.2.2
  have hn : M.length = n := by omega
  have hO := nums_one4 hr
  have hm1 : 1 ≤ ma ∧ ma ≤ 10 := hma
  rw [hll] at hI hc ⊢
  obtain ⟨-, bm⟩ := src_mul hn hs
  have b1 := (inv_bounds hF.z hF.e hO (by omega) (by omega) (tab_len _ _) (src_sq hpos.2 bm) hI).2.2.1
  have b2 : ∀ s, s < n → Bd 4194305 (at0 (rdL n X) s) := fun s hs => by
    unfold rdL; rw [at0_tab _ hs]; exact rd_bd (b1 s hs)
  have hA : AllE mE (rdL n X) := alle_of (rdL_len n X) b2 (by decide)
  have e0 := end_near hF.z hF.e hO (isM_cases hma) hn hI.l hc
  have hR : remL ma n (arms a b c L (n * 3)) (rdL n X) M = lfL (4 * ma) n (arms a b c L (n * 3)) M (rdL n X) := by
    have s1 := sq_of_bd n b2
    have s2 := op_up hF.z hF.e hO 1 (4 * ma) (by decide) (rdL n X)
    have s3 : sqF (at0 (opT 1 (4 * ma) n (arms a b c L (n * 3)) (rdL n X))) n = sqF (opE 1 (4 * ma) (arms a b c L (n * 3)) (at0 (rdL n X))) n := sq_tab _ _
    have s4 : (4 * ma * (4 * ma) + 144) * sqF (at0 (rdL n X)) n ≤ 1744 * sqF (at0 (rdL n X)) n := Int.mul_le_mul_of_nonneg_right (by
      have : 4 * ma * (4 * ma) ≤ 40 * 40 := Int.mul_le_mul (by omega) (by omega) (by omega) (by omega)
      omega) (sqF_nn _ _)
    have s5 : (n : Int) * (4 * (4194305 * 4194305)) ≤ 16 * (4 * (4194305 * 4194305)) := Int.mul_le_mul_of_nonneg_right (by omega) (by decide)
    exact prog_left hn (src_bd hn hs) (by decide) (fun s hs => bd_of_sq (K := 2147483648) (by decide) (by omega) hs) (by decide)
  rw [hR]
  refine ⟨hA, ?_, .inl ⟨?_, ?_, rfl⟩⟩
  · refine ⟨0, ⟨0, .inr ⟨rfl, .inr (.inl ⟨by rw [rdL_len], hA, rfl⟩)⟩, .inr ⟨rfl, by rw [← hll]; exact hv⟩⟩, .inr ⟨rfl, .inl ⟨hs, rfl⟩⟩⟩
  · refine alle_of (lfL_len _ _ _ _ _) (fun s hs => bd_of_sq (K := 449) (by decide) (Int.le_trans e0 ?_) hs) (by decide)
    rcases isM_cases hma with e | e | e | e | e | e | e | e | e | e <;> subst e <;> omega
  · have hd : dotL (lfL (4 * ma) n (arms a b c L (n * 3)) M (rdL n X)) (lfL (4 * ma) n (arms a b c L (n * 3)) M (rdL n X)) = sqF (at0 (lfL (4 * ma) n (arms a b c L (n * 3)) M (rdL n X))) n := by
      unfold dotL; rw [lfL_len, dotK_sq]
    have h0 := sqF_nn (at0 (lfL (4 * ma) n (arms a b c L (n * 3)) M (rdL n X))) n
    rw [hd, ← hF.e, w_in (by omega) (by rcases isM_cases hma with e | e | e | e | e | e | e | e | e | e <;> subst e <;> omega)]
    exact e0
end Go.Proofs.Ytojmagooapjohaa
