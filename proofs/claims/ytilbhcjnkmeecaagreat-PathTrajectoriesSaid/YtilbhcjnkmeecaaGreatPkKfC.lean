/- The force on a link, as a course finds it.
Conditions: those written at each theorem. -/
import Derived.Test.YtilbhcjnkmeecaaGreatPkKorA
namespace Go.Proofs.YtilbhcjnkmeecaaGreat
set_option linter.unusedVariables false
set_option linter.unusedSimpArgs false
set_option maxRecDepth 1000000
open Go.RowKit
open Um Tm Cm Km

theorem ixB0 (x y : Int) : ∀ w, (Instr.index 125 (.agg #[.int .i64 x, .int .i64 y]) (.int .i64 0)).run Tryz.prog w = .ok (.int .i64 x) w := fun _ => by kernel_rfl
theorem ixB1 (x y : Int) : ∀ w, (Instr.index 125 (.agg #[.int .i64 x, .int .i64 y]) (.int .i64 1)).run Tryz.prog w = .ok (.int .i64 y) w := fun _ => by kernel_rfl
theorem ixC0 (x y z : Int) : ∀ w, (Instr.index 22 (.agg #[.int .i64 x, .int .i64 y, .int .i64 z]) (.int .i64 0)).run Tryz.prog w = .ok (.int .i64 x) w := fun _ => by kernel_rfl
theorem ixC1 (x y z : Int) : ∀ w, (Instr.index 22 (.agg #[.int .i64 x, .int .i64 y, .int .i64 z]) (.int .i64 1)).run Tryz.prog w = .ok (.int .i64 y) w := fun _ => by kernel_rfl
theorem ixC2 (x y z : Int) : ∀ w, (Instr.index 22 (.agg #[.int .i64 x, .int .i64 y, .int .i64 z]) (.int .i64 2)).run Tryz.prog w = .ok (.int .i64 z) w := fun _ => by kernel_rfl
/-- three numbers in a block -/
structure T3 (w : World) (b : Nat) (x y z : Int) : Prop where
  c0 : w.cell? ⟨b, 0, none⟩ = some (.int .i64 x)
  c1 : w.cell? ⟨b, 1, none⟩ = some (.int .i64 y)
  c2 : w.cell? ⟨b, 2, none⟩ = some (.int .i64 z)
  free : ∀ j, w.frozen? ⟨b, j, none⟩ = false
  lt : b < w.heap.size
theorem T3.far {w w1 : World} {b : Nat} {x y z : Int} {row : Option Nat} (k : T3 w b x y z) (hg : w.grownBy w1 row) (hne : some b ≠ row) : T3 w1 b x y z :=
  ⟨hg.cell k.c0 hne, hg.cell k.c1 hne, hg.cell k.c2 hne, fun j => (World.frozen?_of_block (a := ⟨b, j, none⟩) (hg.block b k.lt hne)).trans (k.free j), Nat.lt_of_lt_of_le k.lt hg.size⟩
theorem T3.put {w : World} {b : Nat} {x y z : Int} (k : T3 w b x y z) (u v t : Int) : T3 (((w.setCell ⟨b, 0, none⟩ (.int .i64 u)).setCell ⟨b, 1, none⟩ (.int .i64 v)).setCell ⟨b, 2, none⟩ (.int .i64 t)) b u v t := by
  have h0 := k.c0
  have h1 := k.c1
  have h2 := k.c2
  have hf := k.free
  have hl := k.lt
  exact ⟨by simp [go_sem, h0, h1, h2], by simp [go_sem, h0, h1, h2], by simp [go_sem, h0, h1, h2], fun j => by rw [World.frozen?_setCell, World.frozen?_setCell, World.frozen?_setCell]; exact hf j, by simp [World.setCell]; exact hl⟩

set_option maxHeartbeats 12800000 in
theorem force_d1 (a b c : Int) (n N : Nat) (w : World) (m B gl gx gp kl kx : Nat) (L : List Q) (s : Nat) (hC : CO a b c n N w m B gl gx gp kl kx L) (hF : Fl a b c L) (hS : ∀ x ∈ L, IsS x) (hn : L.length = n) (hN : (N : Int) = a * b * c) (hs : s < N) :
    Calls Tryz.prog 61 #[.pointer (some ⟨B, 0, none⟩), .int .i64 (3 * s + 0 : Nat)] w fun e' w' => e' = .returned (.agg #[.int .i64 (frA tb a b c L s 1), .int .i64 (frA tc a b c L s 1), .int .i64 (frA td a b c L s 1)]) ∧ w.grownBy w' (some gp) ∧ PR w' gp := by
  have hd : IsStep 1 := ⟨by omega, by omega, by omega⟩
  have hs0 : (0 : Int) ≤ s := by omega
  have hs1 : (s : Int) < a * b * c := by omega
  have S1 : IsS (pl4 a b c L s 1 2) := pl4_S hF hS hs0 hs1 hd ⟨by omega, by omega, by omega⟩
  have c1 := fun (X : World) (h : CO a b c n N X m B gl gx gp kl kx L) => along_pos a b c n N X m B gl gx gp kl kx L s 1 2 h hF hS hn hN hs (by omega) (by omega) (by omega) (by omega)
  have S2 : IsS (pl4 a b c L s 1 (-2)) := pl4_S hF hS hs0 hs1 hd ⟨by omega, by omega, by omega⟩
  have c2 := fun (X : World) (h : CO a b c n N X m B gl gx gp kl kx L) => along_neg a b c n N X m B gl gx gp kl kx L s 1 2 h hF hS hn hN hs (by omega) (by omega) (by omega) (by omega)
  have S3 : IsS (pl4 a b c L s 1 3) := pl4_S hF hS hs0 hs1 hd ⟨by omega, by omega, by omega⟩
  have c3 := fun (X : World) (h : CO a b c n N X m B gl gx gp kl kx L) => along_pos a b c n N X m B gl gx gp kl kx L s 1 3 h hF hS hn hN hs (by omega) (by omega) (by omega) (by omega)
  have S4 : IsS (pl4 a b c L s 1 (-3)) := pl4_S hF hS hs0 hs1 hd ⟨by omega, by omega, by omega⟩
  have c4 := fun (X : World) (h : CO a b c n N X m B gl gx gp kl kx L) => along_neg a b c n N X m B gl gx gp kl kx L s 1 3 h hF hS hn hN hs (by omega) (by omega) (by omega) (by omega)
  have eb : frA tb a b c L s 1 = tb (pl4 a b c L s 1 2) + tb (pl4 a b c L s 1 (-2)) + tb (pl4 a b c L s 1 3) + tb (pl4 a b c L s 1 (-3)) := rfl
  have ec : frA tc a b c L s 1 = tc (pl4 a b c L s 1 2) + tc (pl4 a b c L s 1 (-2)) + tc (pl4 a b c L s 1 3) + tc (pl4 a b c L s 1 (-3)) := rfl
  have ed : frA td a b c L s 1 = td (pl4 a b c L s 1 2) + td (pl4 a b c L s 1 (-2)) + td (pl4 a b c L s 1 3) + td (pl4 a b c L s 1 (-3)) := rfl
  rw [eb, ec, ed]
  clear eb ec ed
  generalize pl4 a b c L s 1 2 = q1 at *
  have t1 := fun (X : World) (h : PR X gp) => twice_any gp q1 X h S1
  obtain ⟨-, -, -, -, ⟨x10, x11⟩, ⟨x12, x13⟩, ⟨x14, x15⟩⟩ := S1.tw
  have ia1 := ixC0 (tb q1) (tc q1) (td q1)
  have ib1 := ixC1 (tb q1) (tc q1) (td q1)
  have ic1 := ixC2 (tb q1) (tc q1) (td q1)
  generalize tb q1 = r10 at *
  generalize tc q1 = r11 at *
  generalize td q1 = r12 at *
  generalize pl4 a b c L s 1 (-2) = q2 at *
  have t2 := fun (X : World) (h : PR X gp) => twice_any gp q2 X h S2
  obtain ⟨-, -, -, -, ⟨x20, x21⟩, ⟨x22, x23⟩, ⟨x24, x25⟩⟩ := S2.tw
  have ia2 := ixC0 (tb q2) (tc q2) (td q2)
  have ib2 := ixC1 (tb q2) (tc q2) (td q2)
  have ic2 := ixC2 (tb q2) (tc q2) (td q2)
  generalize tb q2 = r20 at *
  generalize tc q2 = r21 at *
  generalize td q2 = r22 at *
  generalize pl4 a b c L s 1 3 = q3 at *
  have t3 := fun (X : World) (h : PR X gp) => twice_any gp q3 X h S3
  obtain ⟨-, -, -, -, ⟨x30, x31⟩, ⟨x32, x33⟩, ⟨x34, x35⟩⟩ := S3.tw
  have ia3 := ixC0 (tb q3) (tc q3) (td q3)
  have ib3 := ixC1 (tb q3) (tc q3) (td q3)
  have ic3 := ixC2 (tb q3) (tc q3) (td q3)
  generalize tb q3 = r30 at *
  generalize tc q3 = r31 at *
  generalize td q3 = r32 at *
  generalize pl4 a b c L s 1 (-3) = q4 at *
  have t4 := fun (X : World) (h : PR X gp) => twice_any gp q4 X h S4
  obtain ⟨-, -, -, -, ⟨x40, x41⟩, ⟨x42, x43⟩, ⟨x44, x45⟩⟩ := S4.tw
  have ia4 := ixC0 (tb q4) (tc q4) (td q4)
  have ib4 := ixC1 (tb q4) (tc q4) (td q4)
  have ic4 := ixC2 (tb q4) (tc q4) (td q4)
  generalize tb q4 = r40 at *
  generalize tc q4 = r41 at *
  generalize td q4 = r42 at *
  have hn16 : N ≤ 16 := by have := hF.z.p; omega
  have lB := hC.lb
  have lgp := hC.pr.lt
  have lgl := hC.li.lt
  have lgx := hC.nx.lt (by omega)
  have HC := Lib.hid hC
  have d1 : ((3 * s + 0 : Nat) : Int) / 3 = s := by omega
  have d2 : ((3 * s + 0 : Nat) : Int) % 3 = 0 := by omega
  have d3 : ((3 * s + 0 : Nat) : Int) ≤ 1000 := by omega
  have d4 : (0 : Int) ≤ ((3 * s + 0 : Nat) : Int) := by omega
  have b1 := ixB0 2 (-2)
  have b2 := ixB1 2 (-2)
  have b3 := ixB0 3 (-3)
  have b4 := ixB1 3 (-3)
  clear hC hF hS hn hN hs hd hs0 hs1 S1 S2 S3 S4
  generalize ((3 * s + 0 : Nat) : Int) = i at *
  go_enter Tryz.func61, Tryz.ntmps61
  go_wp2
  have R0 : T3 ((w.alloc (.cells #[.int .i64 0, .int .i64 0, .int .i64 0] 22)).alloc (.cells #[.int .i64 0, .int .i64 0, .int .i64 0] 22)) w.heap.size 0 0 0 := ⟨by simp [go_sem], by simp [go_sem], by simp [go_sem], fun j => by simp [go_sem], by simp <;> omega⟩
  have F0 : T3 ((w.alloc (.cells #[.int .i64 0, .int .i64 0, .int .i64 0] 22)).alloc (.cells #[.int .i64 0, .int .i64 0, .int .i64 0] 22)) (w.heap.size + 1) 0 0 0 := by exact ⟨by simp [go_sem], by simp [go_sem], by simp [go_sem], fun j => by simp [go_sem], by simp <;> omega⟩
  have G0 : w.grownBy ((w.alloc (.cells #[.int .i64 0, .int .i64 0, .int .i64 0] 22)).alloc (.cells #[.int .i64 0, .int .i64 0, .int .i64 0] 22)) (some gp) := grown_ofB (by repeat (first | (with_reducible exact Below.refl _ _) | (with_reducible refine Below.setCell ?_ ?_ _) | (with_reducible refine Below.drew ?_) | (with_reducible refine Below.alloc ?_ ?_ _) | omega | (simp <;> omega)))
  have K0 := Lib.hid (HC.out.later (show Below w.heap.size w ((w.alloc (.cells #[.int .i64 0, .int .i64 0, .int .i64 0] 22)).alloc (.cells #[.int .i64 0, .int .i64 0, .int .i64 0] 22)) by repeat (first | (with_reducible exact Below.refl _ _) | (with_reducible refine Below.setCell ?_ ?_ _) | (with_reducible refine Below.drew ?_) | (with_reducible refine Below.alloc ?_ ?_ _) | omega | (simp <;> omega))))
  have HR0 := Lib.hid R0
  have HF0 := Lib.hid F0
  have HG0 := Lib.hid G0
  clear R0 F0 G0 HC
  generalize (w.alloc (.cells #[.int .i64 0, .int .i64 0, .int .i64 0] 22)).alloc (.cells #[.int .i64 0, .int .i64 0, .int .i64 0] 22) = X0 at *
  obtain ⟨z, hz1, hz2, HFz⟩ : ∃ z : Int, z ≤ 0 ∧ 0 ≤ z ∧ Hid (T3 X0 (w.heap.size + 1) z z z) := ⟨0, by omega, by omega, HF0⟩
  clear HF0
  have HF0 := HFz
  clear HFz
  have nF : w.heap.size + 1 ≠ gp := by omega
  have nR : w.heap.size ≠ gp := by omega
  have nB : w.heap.size + 1 ≠ B := by omega
  have nl : w.heap.size + 1 ≠ gl := by omega
  have nx : w.heap.size + 1 ≠ gx := by omega
  refine wp_loop_rounds 4 ?_
  rw [rounds_succ]
  go_wp2
  rw [rounds_succ]
  go_wp2
  refine wp_loop_rounds 3 ?_
  rw [rounds_succ]
  have cp1 := K0.out.cp
  have lb1 := K0.out.lb
  go_wp2_with (first | ((with_reducible refine (c1 _ K0.out).mono ?_); clear c1; rintro e' U1 ⟨rfl, hg1, hp1⟩; have K1a := K0.out.touch hg1 hp1; have cq1 := K1a.cp; have lq1 := K1a.lb; have hK1 := Lib.hid K1a; have hG1 := Lib.hid hg1; have hP1 := Lib.hid hp1; clear K1a hg1 hp1 cp1 lb1) | ((with_reducible refine (t1 _ hP1.out).mono ?_); clear t1; rintro e' V1 ⟨rfl, hv1⟩; have bv1 := Lib.hid hv1; clear hv1 cq1 lq1))
  have F1a := (HF0.out.far hG1.out (by simp; exact nF)).far (row := none) (grown_ofB bv1.out) (by simp)
  have R1a := (HR0.out.far hG1.out (by simp; exact nR)).far (row := none) (grown_ofB bv1.out) (by simp)
  have K1b := hK1.out.later bv1.out
  have G1a := (HG0.out.trans hG1.out).trans (grown_ofB (row := some gp) bv1.out)
  have f10 := F1a.c0
  have f11 := F1a.c1
  have f12 := F1a.c2
  have ff1 := F1a.free
  have fl1 := F1a.lt
  have HFa1 := Lib.hid F1a
  have HRa1 := Lib.hid R1a
  have HKb1 := Lib.hid K1b
  have HGa1 := Lib.hid G1a
  clear F1a R1a K1b G1a HF0 HR0 HG0 K0 hK1 hG1 hP1 bv1
  refine wp_loop_rounds 4 ?_
  rw [rounds_succ]
  go_wp2
  rw [rounds_succ]
  go_wp2
  rw [rounds_succ]
  go_wp2
  rw [rounds_succ]
  obtain ⟨u10, hu10⟩ : ∃ u : Int, z + r10 = u := ⟨_, rfl⟩
  have y10 : -2 ≤ u10 := by omega
  have yy10 : u10 ≤ 2 := by omega
  obtain ⟨u11, hu11⟩ : ∃ u : Int, z + r11 = u := ⟨_, rfl⟩
  have y11 : -2 ≤ u11 := by omega
  have yy11 : u11 ≤ 2 := by omega
  obtain ⟨u12, hu12⟩ : ∃ u : Int, z + r12 = u := ⟨_, rfl⟩
  have y12 : -2 ≤ u12 := by omega
  have yy12 : u12 ≤ 2 := by omega
  rw [hu10, hu11, hu12]
  have F1b : T3 (((V1.setCell ⟨w.heap.size + 1, 0, none⟩ (.int .i64 u10)).setCell ⟨w.heap.size + 1, 1, none⟩ (.int .i64 u11)).setCell ⟨w.heap.size + 1, 2, none⟩ (.int .i64 u12)) (w.heap.size + 1) u10 u11 u12 := HFa1.out.put _ _ _
  have Gs1 := grown_setCells (w.heap.size + 1) [.int .i64 u10, .int .i64 u11, .int .i64 u12] 0 V1
  have R1b := HRa1.out.far Gs1 (by simp)
  have K1c := HKb1.out.far Gs1 (by simp; exact Ne.symm nB) (by simp; exact Ne.symm nl) (by simp; exact Ne.symm nx) (by simp; exact Ne.symm nF)
  have G1b := HGa1.out.andThen Gs1 (fun j hj => .inl (by simp at hj; omega))
  have HF1 := Lib.hid F1b
  have HR1 : Hid (T3 (((V1.setCell ⟨w.heap.size + 1, 0, none⟩ (.int .i64 u10)).setCell ⟨w.heap.size + 1, 1, none⟩ (.int .i64 u11)).setCell ⟨w.heap.size + 1, 2, none⟩ (.int .i64 u12)) w.heap.size 0 0 0) := Lib.hid R1b
  have K1 : Hid (CO a b c n N (((V1.setCell ⟨w.heap.size + 1, 0, none⟩ (.int .i64 u10)).setCell ⟨w.heap.size + 1, 1, none⟩ (.int .i64 u11)).setCell ⟨w.heap.size + 1, 2, none⟩ (.int .i64 u12)) m B gl gx gp kl kx L) := Lib.hid K1c
  have HG1 : Hid (w.grownBy (((V1.setCell ⟨w.heap.size + 1, 0, none⟩ (.int .i64 u10)).setCell ⟨w.heap.size + 1, 1, none⟩ (.int .i64 u11)).setCell ⟨w.heap.size + 1, 2, none⟩ (.int .i64 u12)) (some gp)) := Lib.hid G1b
  have HU10 := Lib.hid hu10
  have HU11 := Lib.hid hu11
  have HU12 := Lib.hid hu12
  clear F1b R1b K1c G1b Gs1 HFa1 HRa1 HKb1 HGa1 hu10 hu11 hu12 f10 f11 f12 ff1 fl1
  generalize ((V1.setCell ⟨w.heap.size + 1, 0, none⟩ (.int .i64 u10)).setCell ⟨w.heap.size + 1, 1, none⟩ (.int .i64 u11)).setCell ⟨w.heap.size + 1, 2, none⟩ (.int .i64 u12) = X1 at *
  go_wp2_with (fail)
  rw [rounds_succ]
  have cp2 := K1.out.cp
  have lb2 := K1.out.lb
  go_wp2_with (first | ((with_reducible refine (c2 _ K1.out).mono ?_); clear c2; rintro e' U2 ⟨rfl, hg2, hp2⟩; have K2a := K1.out.touch hg2 hp2; have cq2 := K2a.cp; have lq2 := K2a.lb; have hK2 := Lib.hid K2a; have hG2 := Lib.hid hg2; have hP2 := Lib.hid hp2; clear K2a hg2 hp2 cp2 lb2) | ((with_reducible refine (t2 _ hP2.out).mono ?_); clear t2; rintro e' V2 ⟨rfl, hv2⟩; have bv2 := Lib.hid hv2; clear hv2 cq2 lq2))
  have F2a := (HF1.out.far hG2.out (by simp; exact nF)).far (row := none) (grown_ofB bv2.out) (by simp)
  have R2a := (HR1.out.far hG2.out (by simp; exact nR)).far (row := none) (grown_ofB bv2.out) (by simp)
  have K2b := hK2.out.later bv2.out
  have G2a := (HG1.out.trans hG2.out).trans (grown_ofB (row := some gp) bv2.out)
  have f20 := F2a.c0
  have f21 := F2a.c1
  have f22 := F2a.c2
  have ff2 := F2a.free
  have fl2 := F2a.lt
  have HFa2 := Lib.hid F2a
  have HRa2 := Lib.hid R2a
  have HKb2 := Lib.hid K2b
  have HGa2 := Lib.hid G2a
  clear F2a R2a K2b G2a HF1 HR1 HG1 K1 hK2 hG2 hP2 bv2
  refine wp_loop_rounds 4 ?_
  rw [rounds_succ]
  go_wp2
  rw [rounds_succ]
  go_wp2
  rw [rounds_succ]
  go_wp2
  rw [rounds_succ]
  obtain ⟨u20, hu20⟩ : ∃ u : Int, u10 + r20 = u := ⟨_, rfl⟩
  have y20 : -4 ≤ u20 := by omega
  have yy20 : u20 ≤ 4 := by omega
  obtain ⟨u21, hu21⟩ : ∃ u : Int, u11 + r21 = u := ⟨_, rfl⟩
  have y21 : -4 ≤ u21 := by omega
  have yy21 : u21 ≤ 4 := by omega
  obtain ⟨u22, hu22⟩ : ∃ u : Int, u12 + r22 = u := ⟨_, rfl⟩
  have y22 : -4 ≤ u22 := by omega
  have yy22 : u22 ≤ 4 := by omega
  rw [hu20, hu21, hu22]
  have F2b : T3 (((V2.setCell ⟨w.heap.size + 1, 0, none⟩ (.int .i64 u20)).setCell ⟨w.heap.size + 1, 1, none⟩ (.int .i64 u21)).setCell ⟨w.heap.size + 1, 2, none⟩ (.int .i64 u22)) (w.heap.size + 1) u20 u21 u22 := HFa2.out.put _ _ _
  have Gs2 := grown_setCells (w.heap.size + 1) [.int .i64 u20, .int .i64 u21, .int .i64 u22] 0 V2
  have R2b := HRa2.out.far Gs2 (by simp)
  have K2c := HKb2.out.far Gs2 (by simp; exact Ne.symm nB) (by simp; exact Ne.symm nl) (by simp; exact Ne.symm nx) (by simp; exact Ne.symm nF)
  have G2b := HGa2.out.andThen Gs2 (fun j hj => .inl (by simp at hj; omega))
  have HF2 := Lib.hid F2b
  have HR2 : Hid (T3 (((V2.setCell ⟨w.heap.size + 1, 0, none⟩ (.int .i64 u20)).setCell ⟨w.heap.size + 1, 1, none⟩ (.int .i64 u21)).setCell ⟨w.heap.size + 1, 2, none⟩ (.int .i64 u22)) w.heap.size 0 0 0) := Lib.hid R2b
  have K2 : Hid (CO a b c n N (((V2.setCell ⟨w.heap.size + 1, 0, none⟩ (.int .i64 u20)).setCell ⟨w.heap.size + 1, 1, none⟩ (.int .i64 u21)).setCell ⟨w.heap.size + 1, 2, none⟩ (.int .i64 u22)) m B gl gx gp kl kx L) := Lib.hid K2c
  have HG2 : Hid (w.grownBy (((V2.setCell ⟨w.heap.size + 1, 0, none⟩ (.int .i64 u20)).setCell ⟨w.heap.size + 1, 1, none⟩ (.int .i64 u21)).setCell ⟨w.heap.size + 1, 2, none⟩ (.int .i64 u22)) (some gp)) := Lib.hid G2b
  have HU20 := Lib.hid hu20
  have HU21 := Lib.hid hu21
  have HU22 := Lib.hid hu22
  clear F2b R2b K2c G2b Gs2 HFa2 HRa2 HKb2 HGa2 hu20 hu21 hu22 f20 f21 f22 ff2 fl2
  generalize ((V2.setCell ⟨w.heap.size + 1, 0, none⟩ (.int .i64 u20)).setCell ⟨w.heap.size + 1, 1, none⟩ (.int .i64 u21)).setCell ⟨w.heap.size + 1, 2, none⟩ (.int .i64 u22) = X2 at *
  go_wp2_with (fail)
  rw [rounds_succ]
  go_wp2
  rw [rounds_succ]
  go_wp2
  refine wp_loop_rounds 3 ?_
  rw [rounds_succ]
  have cp3 := K2.out.cp
  have lb3 := K2.out.lb
  go_wp2_with (first | ((with_reducible refine (c3 _ K2.out).mono ?_); clear c3; rintro e' U3 ⟨rfl, hg3, hp3⟩; have K3a := K2.out.touch hg3 hp3; have cq3 := K3a.cp; have lq3 := K3a.lb; have hK3 := Lib.hid K3a; have hG3 := Lib.hid hg3; have hP3 := Lib.hid hp3; clear K3a hg3 hp3 cp3 lb3) | ((with_reducible refine (t3 _ hP3.out).mono ?_); clear t3; rintro e' V3 ⟨rfl, hv3⟩; have bv3 := Lib.hid hv3; clear hv3 cq3 lq3))
  have F3a := (HF2.out.far hG3.out (by simp; exact nF)).far (row := none) (grown_ofB bv3.out) (by simp)
  have R3a := (HR2.out.far hG3.out (by simp; exact nR)).far (row := none) (grown_ofB bv3.out) (by simp)
  have K3b := hK3.out.later bv3.out
  have G3a := (HG2.out.trans hG3.out).trans (grown_ofB (row := some gp) bv3.out)
  have f30 := F3a.c0
  have f31 := F3a.c1
  have f32 := F3a.c2
  have ff3 := F3a.free
  have fl3 := F3a.lt
  have HFa3 := Lib.hid F3a
  have HRa3 := Lib.hid R3a
  have HKb3 := Lib.hid K3b
  have HGa3 := Lib.hid G3a
  clear F3a R3a K3b G3a HF2 HR2 HG2 K2 hK3 hG3 hP3 bv3
  refine wp_loop_rounds 4 ?_
  rw [rounds_succ]
  go_wp2
  rw [rounds_succ]
  go_wp2
  rw [rounds_succ]
  go_wp2
  rw [rounds_succ]
  obtain ⟨u30, hu30⟩ : ∃ u : Int, u20 + r30 = u := ⟨_, rfl⟩
  have y30 : -6 ≤ u30 := by omega
  have yy30 : u30 ≤ 6 := by omega
  obtain ⟨u31, hu31⟩ : ∃ u : Int, u21 + r31 = u := ⟨_, rfl⟩
  have y31 : -6 ≤ u31 := by omega
  have yy31 : u31 ≤ 6 := by omega
  obtain ⟨u32, hu32⟩ : ∃ u : Int, u22 + r32 = u := ⟨_, rfl⟩
  have y32 : -6 ≤ u32 := by omega
  have yy32 : u32 ≤ 6 := by omega
  rw [hu30, hu31, hu32]
  have F3b : T3 (((V3.setCell ⟨w.heap.size + 1, 0, none⟩ (.int .i64 u30)).setCell ⟨w.heap.size + 1, 1, none⟩ (.int .i64 u31)).setCell ⟨w.heap.size + 1, 2, none⟩ (.int .i64 u32)) (w.heap.size + 1) u30 u31 u32 := HFa3.out.put _ _ _
  have Gs3 := grown_setCells (w.heap.size + 1) [.int .i64 u30, .int .i64 u31, .int .i64 u32] 0 V3
  have R3b := HRa3.out.far Gs3 (by simp)
  have K3c := HKb3.out.far Gs3 (by simp; exact Ne.symm nB) (by simp; exact Ne.symm nl) (by simp; exact Ne.symm nx) (by simp; exact Ne.symm nF)
  have G3b := HGa3.out.andThen Gs3 (fun j hj => .inl (by simp at hj; omega))
  have HF3 := Lib.hid F3b
  have HR3 : Hid (T3 (((V3.setCell ⟨w.heap.size + 1, 0, none⟩ (.int .i64 u30)).setCell ⟨w.heap.size + 1, 1, none⟩ (.int .i64 u31)).setCell ⟨w.heap.size + 1, 2, none⟩ (.int .i64 u32)) w.heap.size 0 0 0) := Lib.hid R3b
  have K3 : Hid (CO a b c n N (((V3.setCell ⟨w.heap.size + 1, 0, none⟩ (.int .i64 u30)).setCell ⟨w.heap.size + 1, 1, none⟩ (.int .i64 u31)).setCell ⟨w.heap.size + 1, 2, none⟩ (.int .i64 u32)) m B gl gx gp kl kx L) := Lib.hid K3c
  have HG3 : Hid (w.grownBy (((V3.setCell ⟨w.heap.size + 1, 0, none⟩ (.int .i64 u30)).setCell ⟨w.heap.size + 1, 1, none⟩ (.int .i64 u31)).setCell ⟨w.heap.size + 1, 2, none⟩ (.int .i64 u32)) (some gp)) := Lib.hid G3b
  have HU30 := Lib.hid hu30
  have HU31 := Lib.hid hu31
  have HU32 := Lib.hid hu32
  clear F3b R3b K3c G3b Gs3 HFa3 HRa3 HKb3 HGa3 hu30 hu31 hu32 f30 f31 f32 ff3 fl3
  generalize ((V3.setCell ⟨w.heap.size + 1, 0, none⟩ (.int .i64 u30)).setCell ⟨w.heap.size + 1, 1, none⟩ (.int .i64 u31)).setCell ⟨w.heap.size + 1, 2, none⟩ (.int .i64 u32) = X3 at *
  go_wp2_with (fail)
  rw [rounds_succ]
  have cp4 := K3.out.cp
  have lb4 := K3.out.lb
  go_wp2_with (first | ((with_reducible refine (c4 _ K3.out).mono ?_); clear c4; rintro e' U4 ⟨rfl, hg4, hp4⟩; have K4a := K3.out.touch hg4 hp4; have cq4 := K4a.cp; have lq4 := K4a.lb; have hK4 := Lib.hid K4a; have hG4 := Lib.hid hg4; have hP4 := Lib.hid hp4; clear K4a hg4 hp4 cp4 lb4) | ((with_reducible refine (t4 _ hP4.out).mono ?_); clear t4; rintro e' V4 ⟨rfl, hv4⟩; have bv4 := Lib.hid hv4; clear hv4 cq4 lq4))
  have F4a := (HF3.out.far hG4.out (by simp; exact nF)).far (row := none) (grown_ofB bv4.out) (by simp)
  have R4a := (HR3.out.far hG4.out (by simp; exact nR)).far (row := none) (grown_ofB bv4.out) (by simp)
  have K4b := hK4.out.later bv4.out
  have G4a := (HG3.out.trans hG4.out).trans (grown_ofB (row := some gp) bv4.out)
  have f40 := F4a.c0
  have f41 := F4a.c1
  have f42 := F4a.c2
  have ff4 := F4a.free
  have fl4 := F4a.lt
  have HFa4 := Lib.hid F4a
  have HRa4 := Lib.hid R4a
  have HKb4 := Lib.hid K4b
  have HGa4 := Lib.hid G4a
  clear F4a R4a K4b G4a HF3 HR3 HG3 K3 hK4 hG4 hP4 bv4
  refine wp_loop_rounds 4 ?_
  rw [rounds_succ]
  go_wp2
  rw [rounds_succ]
  go_wp2
  rw [rounds_succ]
  go_wp2
  rw [rounds_succ]
  obtain ⟨u40, hu40⟩ : ∃ u : Int, u30 + r40 = u := ⟨_, rfl⟩
  have y40 : -8 ≤ u40 := by omega
  have yy40 : u40 ≤ 8 := by omega
  obtain ⟨u41, hu41⟩ : ∃ u : Int, u31 + r41 = u := ⟨_, rfl⟩
  have y41 : -8 ≤ u41 := by omega
  have yy41 : u41 ≤ 8 := by omega
  obtain ⟨u42, hu42⟩ : ∃ u : Int, u32 + r42 = u := ⟨_, rfl⟩
  have y42 : -8 ≤ u42 := by omega
  have yy42 : u42 ≤ 8 := by omega
  rw [hu40, hu41, hu42]
  have F4b : T3 (((V4.setCell ⟨w.heap.size + 1, 0, none⟩ (.int .i64 u40)).setCell ⟨w.heap.size + 1, 1, none⟩ (.int .i64 u41)).setCell ⟨w.heap.size + 1, 2, none⟩ (.int .i64 u42)) (w.heap.size + 1) u40 u41 u42 := HFa4.out.put _ _ _
  have Gs4 := grown_setCells (w.heap.size + 1) [.int .i64 u40, .int .i64 u41, .int .i64 u42] 0 V4
  have R4b := HRa4.out.far Gs4 (by simp)
  have K4c := HKb4.out.far Gs4 (by simp; exact Ne.symm nB) (by simp; exact Ne.symm nl) (by simp; exact Ne.symm nx) (by simp; exact Ne.symm nF)
  have G4b := HGa4.out.andThen Gs4 (fun j hj => .inl (by simp at hj; omega))
  have HF4 := Lib.hid F4b
  have HR4 : Hid (T3 (((V4.setCell ⟨w.heap.size + 1, 0, none⟩ (.int .i64 u40)).setCell ⟨w.heap.size + 1, 1, none⟩ (.int .i64 u41)).setCell ⟨w.heap.size + 1, 2, none⟩ (.int .i64 u42)) w.heap.size 0 0 0) := Lib.hid R4b
  have K4 : Hid (CO a b c n N (((V4.setCell ⟨w.heap.size + 1, 0, none⟩ (.int .i64 u40)).setCell ⟨w.heap.size + 1, 1, none⟩ (.int .i64 u41)).setCell ⟨w.heap.size + 1, 2, none⟩ (.int .i64 u42)) m B gl gx gp kl kx L) := Lib.hid K4c
  have HG4 : Hid (w.grownBy (((V4.setCell ⟨w.heap.size + 1, 0, none⟩ (.int .i64 u40)).setCell ⟨w.heap.size + 1, 1, none⟩ (.int .i64 u41)).setCell ⟨w.heap.size + 1, 2, none⟩ (.int .i64 u42)) (some gp)) := Lib.hid G4b
  have HU40 := Lib.hid hu40
  have HU41 := Lib.hid hu41
  have HU42 := Lib.hid hu42
  clear F4b R4b K4c G4b Gs4 HFa4 HRa4 HKb4 HGa4 hu40 hu41 hu42 f40 f41 f42 ff4 fl4
  generalize ((V4.setCell ⟨w.heap.size + 1, 0, none⟩ (.int .i64 u40)).setCell ⟨w.heap.size + 1, 1, none⟩ (.int .i64 u41)).setCell ⟨w.heap.size + 1, 2, none⟩ (.int .i64 u42) = X4 at *
  go_wp2_with (fail)
  rw [rounds_succ]
  go_wp2
  rw [rounds_succ]
  have rr0 := HR4.out.c0
  have rr1 := HR4.out.c1
  have rr2 := HR4.out.c2
  have rf := HR4.out.free
  have rl := HR4.out.lt
  have f0 := HF4.out.c0
  have f1 := HF4.out.c1
  have f2 := HF4.out.c2
  have fl := HF4.out.lt
  go_wp2
  have w0 : r10 + r20 + r30 + r40 = u40 := by have := HU10.out; have := HU20.out; have := HU30.out; have := HU40.out; omega
  have w1 : r11 + r21 + r31 + r41 = u41 := by have := HU11.out; have := HU21.out; have := HU31.out; have := HU41.out; omega
  have w2 : r12 + r22 + r32 + r42 = u42 := by have := HU12.out; have := HU22.out; have := HU32.out; have := HU42.out; omega
  rw [w0, w1, w2]
  have Gs := grown_setCells w.heap.size [.int .i64 u40, .int .i64 u41, .int .i64 u42] 0 X4
  refine bodyPost_ret (v := .agg #[.int .i64 u40, .int .i64 u41, .int .i64 u42]) (by simp [results, Tryz.results61, go_sem, rr0, rr1, rr2, rf, rl]) rfl ⟨rfl, ?_, ?_⟩
  · exact HG4.out.andThen Gs (fun j hj => .inl (by simp at hj; omega))
  · exact K4.out.pr.grown Gs (by simp; exact Ne.symm nR)
set_option maxHeartbeats 12800000 in
theorem force_d2 (a b c : Int) (n N : Nat) (w : World) (m B gl gx gp kl kx : Nat) (L : List Q) (s : Nat) (hC : CO a b c n N w m B gl gx gp kl kx L) (hF : Fl a b c L) (hS : ∀ x ∈ L, IsS x) (hn : L.length = n) (hN : (N : Int) = a * b * c) (hs : s < N) :
    Calls Tryz.prog 61 #[.pointer (some ⟨B, 0, none⟩), .int .i64 (3 * s + 1 : Nat)] w fun e' w' => e' = .returned (.agg #[.int .i64 (frA tb a b c L s 2), .int .i64 (frA tc a b c L s 2), .int .i64 (frA td a b c L s 2)]) ∧ w.grownBy w' (some gp) ∧ PR w' gp := by
  have hd : IsStep 2 := ⟨by omega, by omega, by omega⟩
  have hs0 : (0 : Int) ≤ s := by omega
  have hs1 : (s : Int) < a * b * c := by omega
  have S1 : IsS (pl4 a b c L s 2 1) := pl4_S hF hS hs0 hs1 hd ⟨by omega, by omega, by omega⟩
  have c1 := fun (X : World) (h : CO a b c n N X m B gl gx gp kl kx L) => along_pos a b c n N X m B gl gx gp kl kx L s 2 1 h hF hS hn hN hs (by omega) (by omega) (by omega) (by omega)
  have S2 : IsS (pl4 a b c L s 2 (-1)) := pl4_S hF hS hs0 hs1 hd ⟨by omega, by omega, by omega⟩
  have c2 := fun (X : World) (h : CO a b c n N X m B gl gx gp kl kx L) => along_neg a b c n N X m B gl gx gp kl kx L s 2 1 h hF hS hn hN hs (by omega) (by omega) (by omega) (by omega)
  have S3 : IsS (pl4 a b c L s 2 3) := pl4_S hF hS hs0 hs1 hd ⟨by omega, by omega, by omega⟩
  have c3 := fun (X : World) (h : CO a b c n N X m B gl gx gp kl kx L) => along_pos a b c n N X m B gl gx gp kl kx L s 2 3 h hF hS hn hN hs (by omega) (by omega) (by omega) (by omega)
  have S4 : IsS (pl4 a b c L s 2 (-3)) := pl4_S hF hS hs0 hs1 hd ⟨by omega, by omega, by omega⟩
  have c4 := fun (X : World) (h : CO a b c n N X m B gl gx gp kl kx L) => along_neg a b c n N X m B gl gx gp kl kx L s 2 3 h hF hS hn hN hs (by omega) (by omega) (by omega) (by omega)
  have eb : frA tb a b c L s 2 = tb (pl4 a b c L s 2 1) + tb (pl4 a b c L s 2 (-1)) + tb (pl4 a b c L s 2 3) + tb (pl4 a b c L s 2 (-3)) := rfl
  have ec : frA tc a b c L s 2 = tc (pl4 a b c L s 2 1) + tc (pl4 a b c L s 2 (-1)) + tc (pl4 a b c L s 2 3) + tc (pl4 a b c L s 2 (-3)) := rfl
  have ed : frA td a b c L s 2 = td (pl4 a b c L s 2 1) + td (pl4 a b c L s 2 (-1)) + td (pl4 a b c L s 2 3) + td (pl4 a b c L s 2 (-3)) := rfl
  rw [eb, ec, ed]
  clear eb ec ed
  generalize pl4 a b c L s 2 1 = q1 at *
  have t1 := fun (X : World) (h : PR X gp) => twice_any gp q1 X h S1
  obtain ⟨-, -, -, -, ⟨x10, x11⟩, ⟨x12, x13⟩, ⟨x14, x15⟩⟩ := S1.tw
  have ia1 := ixC0 (tb q1) (tc q1) (td q1)
  have ib1 := ixC1 (tb q1) (tc q1) (td q1)
  have ic1 := ixC2 (tb q1) (tc q1) (td q1)
  generalize tb q1 = r10 at *
  generalize tc q1 = r11 at *
  generalize td q1 = r12 at *
  generalize pl4 a b c L s 2 (-1) = q2 at *
  have t2 := fun (X : World) (h : PR X gp) => twice_any gp q2 X h S2
  obtain ⟨-, -, -, -, ⟨x20, x21⟩, ⟨x22, x23⟩, ⟨x24, x25⟩⟩ := S2.tw
  have ia2 := ixC0 (tb q2) (tc q2) (td q2)
  have ib2 := ixC1 (tb q2) (tc q2) (td q2)
  have ic2 := ixC2 (tb q2) (tc q2) (td q2)
  generalize tb q2 = r20 at *
  generalize tc q2 = r21 at *
  generalize td q2 = r22 at *
  generalize pl4 a b c L s 2 3 = q3 at *
  have t3 := fun (X : World) (h : PR X gp) => twice_any gp q3 X h S3
  obtain ⟨-, -, -, -, ⟨x30, x31⟩, ⟨x32, x33⟩, ⟨x34, x35⟩⟩ := S3.tw
  have ia3 := ixC0 (tb q3) (tc q3) (td q3)
  have ib3 := ixC1 (tb q3) (tc q3) (td q3)
  have ic3 := ixC2 (tb q3) (tc q3) (td q3)
  generalize tb q3 = r30 at *
  generalize tc q3 = r31 at *
  generalize td q3 = r32 at *
  generalize pl4 a b c L s 2 (-3) = q4 at *
  have t4 := fun (X : World) (h : PR X gp) => twice_any gp q4 X h S4
  obtain ⟨-, -, -, -, ⟨x40, x41⟩, ⟨x42, x43⟩, ⟨x44, x45⟩⟩ := S4.tw
  have ia4 := ixC0 (tb q4) (tc q4) (td q4)
  have ib4 := ixC1 (tb q4) (tc q4) (td q4)
  have ic4 := ixC2 (tb q4) (tc q4) (td q4)
  generalize tb q4 = r40 at *
  generalize tc q4 = r41 at *
  generalize td q4 = r42 at *
  have hn16 : N ≤ 16 := by have := hF.z.p; omega
  have lB := hC.lb
  have lgp := hC.pr.lt
  have lgl := hC.li.lt
  have lgx := hC.nx.lt (by omega)
  have HC := Lib.hid hC
  have d1 : ((3 * s + 1 : Nat) : Int) / 3 = s := by omega
  have d2 : ((3 * s + 1 : Nat) : Int) % 3 = 1 := by omega
  have d3 : ((3 * s + 1 : Nat) : Int) ≤ 1000 := by omega
  have d4 : (0 : Int) ≤ ((3 * s + 1 : Nat) : Int) := by omega
  have b1 := ixB0 1 (-1)
  have b2 := ixB1 1 (-1)
  have b3 := ixB0 3 (-3)
  have b4 := ixB1 3 (-3)
  clear hC hF hS hn hN hs hd hs0 hs1 S1 S2 S3 S4
  generalize ((3 * s + 1 : Nat) : Int) = i at *
  go_enter Tryz.func61, Tryz.ntmps61
  go_wp2
  have R0 : T3 ((w.alloc (.cells #[.int .i64 0, .int .i64 0, .int .i64 0] 22)).alloc (.cells #[.int .i64 0, .int .i64 0, .int .i64 0] 22)) w.heap.size 0 0 0 := ⟨by simp [go_sem], by simp [go_sem], by simp [go_sem], fun j => by simp [go_sem], by simp <;> omega⟩
  have F0 : T3 ((w.alloc (.cells #[.int .i64 0, .int .i64 0, .int .i64 0] 22)).alloc (.cells #[.int .i64 0, .int .i64 0, .int .i64 0] 22)) (w.heap.size + 1) 0 0 0 := by exact ⟨by simp [go_sem], by simp [go_sem], by simp [go_sem], fun j => by simp [go_sem], by simp <;> omega⟩
  have G0 : w.grownBy ((w.alloc (.cells #[.int .i64 0, .int .i64 0, .int .i64 0] 22)).alloc (.cells #[.int .i64 0, .int .i64 0, .int .i64 0] 22)) (some gp) := grown_ofB (by repeat (first | (with_reducible exact Below.refl _ _) | (with_reducible refine Below.setCell ?_ ?_ _) | (with_reducible refine Below.drew ?_) | (with_reducible refine Below.alloc ?_ ?_ _) | omega | (simp <;> omega)))
  have K0 := Lib.hid (HC.out.later (show Below w.heap.size w ((w.alloc (.cells #[.int .i64 0, .int .i64 0, .int .i64 0] 22)).alloc (.cells #[.int .i64 0, .int .i64 0, .int .i64 0] 22)) by repeat (first | (with_reducible exact Below.refl _ _) | (with_reducible refine Below.setCell ?_ ?_ _) | (with_reducible refine Below.drew ?_) | (with_reducible refine Below.alloc ?_ ?_ _) | omega | (simp <;> omega))))
  have HR0 := Lib.hid R0
  have HF0 := Lib.hid F0
  have HG0 := Lib.hid G0
  clear R0 F0 G0 HC
  generalize (w.alloc (.cells #[.int .i64 0, .int .i64 0, .int .i64 0] 22)).alloc (.cells #[.int .i64 0, .int .i64 0, .int .i64 0] 22) = X0 at *
  obtain ⟨z, hz1, hz2, HFz⟩ : ∃ z : Int, z ≤ 0 ∧ 0 ≤ z ∧ Hid (T3 X0 (w.heap.size + 1) z z z) := ⟨0, by omega, by omega, HF0⟩
  clear HF0
  have HF0 := HFz
  clear HFz
  have nF : w.heap.size + 1 ≠ gp := by omega
  have nR : w.heap.size ≠ gp := by omega
  have nB : w.heap.size + 1 ≠ B := by omega
  have nl : w.heap.size + 1 ≠ gl := by omega
  have nx : w.heap.size + 1 ≠ gx := by omega
  refine wp_loop_rounds 4 ?_
  rw [rounds_succ]
  go_wp2
  refine wp_loop_rounds 3 ?_
  rw [rounds_succ]
  have cp1 := K0.out.cp
  have lb1 := K0.out.lb
  go_wp2_with (first | ((with_reducible refine (c1 _ K0.out).mono ?_); clear c1; rintro e' U1 ⟨rfl, hg1, hp1⟩; have K1a := K0.out.touch hg1 hp1; have cq1 := K1a.cp; have lq1 := K1a.lb; have hK1 := Lib.hid K1a; have hG1 := Lib.hid hg1; have hP1 := Lib.hid hp1; clear K1a hg1 hp1 cp1 lb1) | ((with_reducible refine (t1 _ hP1.out).mono ?_); clear t1; rintro e' V1 ⟨rfl, hv1⟩; have bv1 := Lib.hid hv1; clear hv1 cq1 lq1))
  have F1a := (HF0.out.far hG1.out (by simp; exact nF)).far (row := none) (grown_ofB bv1.out) (by simp)
  have R1a := (HR0.out.far hG1.out (by simp; exact nR)).far (row := none) (grown_ofB bv1.out) (by simp)
  have K1b := hK1.out.later bv1.out
  have G1a := (HG0.out.trans hG1.out).trans (grown_ofB (row := some gp) bv1.out)
  have f10 := F1a.c0
  have f11 := F1a.c1
  have f12 := F1a.c2
  have ff1 := F1a.free
  have fl1 := F1a.lt
  have HFa1 := Lib.hid F1a
  have HRa1 := Lib.hid R1a
  have HKb1 := Lib.hid K1b
  have HGa1 := Lib.hid G1a
  clear F1a R1a K1b G1a HF0 HR0 HG0 K0 hK1 hG1 hP1 bv1
  refine wp_loop_rounds 4 ?_
  rw [rounds_succ]
  go_wp2
  rw [rounds_succ]
  go_wp2
  rw [rounds_succ]
  go_wp2
  rw [rounds_succ]
  obtain ⟨u10, hu10⟩ : ∃ u : Int, z + r10 = u := ⟨_, rfl⟩
  have y10 : -2 ≤ u10 := by omega
  have yy10 : u10 ≤ 2 := by omega
  obtain ⟨u11, hu11⟩ : ∃ u : Int, z + r11 = u := ⟨_, rfl⟩
  have y11 : -2 ≤ u11 := by omega
  have yy11 : u11 ≤ 2 := by omega
  obtain ⟨u12, hu12⟩ : ∃ u : Int, z + r12 = u := ⟨_, rfl⟩
  have y12 : -2 ≤ u12 := by omega
  have yy12 : u12 ≤ 2 := by omega
  rw [hu10, hu11, hu12]
  have F1b : T3 (((V1.setCell ⟨w.heap.size + 1, 0, none⟩ (.int .i64 u10)).setCell ⟨w.heap.size + 1, 1, none⟩ (.int .i64 u11)).setCell ⟨w.heap.size + 1, 2, none⟩ (.int .i64 u12)) (w.heap.size + 1) u10 u11 u12 := HFa1.out.put _ _ _
  have Gs1 := grown_setCells (w.heap.size + 1) [.int .i64 u10, .int .i64 u11, .int .i64 u12] 0 V1
  have R1b := HRa1.out.far Gs1 (by simp)
  have K1c := HKb1.out.far Gs1 (by simp; exact Ne.symm nB) (by simp; exact Ne.symm nl) (by simp; exact Ne.symm nx) (by simp; exact Ne.symm nF)
  have G1b := HGa1.out.andThen Gs1 (fun j hj => .inl (by simp at hj; omega))
  have HF1 := Lib.hid F1b
  have HR1 : Hid (T3 (((V1.setCell ⟨w.heap.size + 1, 0, none⟩ (.int .i64 u10)).setCell ⟨w.heap.size + 1, 1, none⟩ (.int .i64 u11)).setCell ⟨w.heap.size + 1, 2, none⟩ (.int .i64 u12)) w.heap.size 0 0 0) := Lib.hid R1b
  have K1 : Hid (CO a b c n N (((V1.setCell ⟨w.heap.size + 1, 0, none⟩ (.int .i64 u10)).setCell ⟨w.heap.size + 1, 1, none⟩ (.int .i64 u11)).setCell ⟨w.heap.size + 1, 2, none⟩ (.int .i64 u12)) m B gl gx gp kl kx L) := Lib.hid K1c
  have HG1 : Hid (w.grownBy (((V1.setCell ⟨w.heap.size + 1, 0, none⟩ (.int .i64 u10)).setCell ⟨w.heap.size + 1, 1, none⟩ (.int .i64 u11)).setCell ⟨w.heap.size + 1, 2, none⟩ (.int .i64 u12)) (some gp)) := Lib.hid G1b
  have HU10 := Lib.hid hu10
  have HU11 := Lib.hid hu11
  have HU12 := Lib.hid hu12
  clear F1b R1b K1c G1b Gs1 HFa1 HRa1 HKb1 HGa1 hu10 hu11 hu12 f10 f11 f12 ff1 fl1
  generalize ((V1.setCell ⟨w.heap.size + 1, 0, none⟩ (.int .i64 u10)).setCell ⟨w.heap.size + 1, 1, none⟩ (.int .i64 u11)).setCell ⟨w.heap.size + 1, 2, none⟩ (.int .i64 u12) = X1 at *
  go_wp2_with (fail)
  rw [rounds_succ]
  have cp2 := K1.out.cp
  have lb2 := K1.out.lb
  go_wp2_with (first | ((with_reducible refine (c2 _ K1.out).mono ?_); clear c2; rintro e' U2 ⟨rfl, hg2, hp2⟩; have K2a := K1.out.touch hg2 hp2; have cq2 := K2a.cp; have lq2 := K2a.lb; have hK2 := Lib.hid K2a; have hG2 := Lib.hid hg2; have hP2 := Lib.hid hp2; clear K2a hg2 hp2 cp2 lb2) | ((with_reducible refine (t2 _ hP2.out).mono ?_); clear t2; rintro e' V2 ⟨rfl, hv2⟩; have bv2 := Lib.hid hv2; clear hv2 cq2 lq2))
  have F2a := (HF1.out.far hG2.out (by simp; exact nF)).far (row := none) (grown_ofB bv2.out) (by simp)
  have R2a := (HR1.out.far hG2.out (by simp; exact nR)).far (row := none) (grown_ofB bv2.out) (by simp)
  have K2b := hK2.out.later bv2.out
  have G2a := (HG1.out.trans hG2.out).trans (grown_ofB (row := some gp) bv2.out)
  have f20 := F2a.c0
  have f21 := F2a.c1
  have f22 := F2a.c2
  have ff2 := F2a.free
  have fl2 := F2a.lt
  have HFa2 := Lib.hid F2a
  have HRa2 := Lib.hid R2a
  have HKb2 := Lib.hid K2b
  have HGa2 := Lib.hid G2a
  clear F2a R2a K2b G2a HF1 HR1 HG1 K1 hK2 hG2 hP2 bv2
  refine wp_loop_rounds 4 ?_
  rw [rounds_succ]
  go_wp2
  rw [rounds_succ]
  go_wp2
  rw [rounds_succ]
  go_wp2
  rw [rounds_succ]
  obtain ⟨u20, hu20⟩ : ∃ u : Int, u10 + r20 = u := ⟨_, rfl⟩
  have y20 : -4 ≤ u20 := by omega
  have yy20 : u20 ≤ 4 := by omega
  obtain ⟨u21, hu21⟩ : ∃ u : Int, u11 + r21 = u := ⟨_, rfl⟩
  have y21 : -4 ≤ u21 := by omega
  have yy21 : u21 ≤ 4 := by omega
  obtain ⟨u22, hu22⟩ : ∃ u : Int, u12 + r22 = u := ⟨_, rfl⟩
  have y22 : -4 ≤ u22 := by omega
  have yy22 : u22 ≤ 4 := by omega
  rw [hu20, hu21, hu22]
  have F2b : T3 (((V2.setCell ⟨w.heap.size + 1, 0, none⟩ (.int .i64 u20)).setCell ⟨w.heap.size + 1, 1, none⟩ (.int .i64 u21)).setCell ⟨w.heap.size + 1, 2, none⟩ (.int .i64 u22)) (w.heap.size + 1) u20 u21 u22 := HFa2.out.put _ _ _
  have Gs2 := grown_setCells (w.heap.size + 1) [.int .i64 u20, .int .i64 u21, .int .i64 u22] 0 V2
  have R2b := HRa2.out.far Gs2 (by simp)
  have K2c := HKb2.out.far Gs2 (by simp; exact Ne.symm nB) (by simp; exact Ne.symm nl) (by simp; exact Ne.symm nx) (by simp; exact Ne.symm nF)
  have G2b := HGa2.out.andThen Gs2 (fun j hj => .inl (by simp at hj; omega))
  have HF2 := Lib.hid F2b
  have HR2 : Hid (T3 (((V2.setCell ⟨w.heap.size + 1, 0, none⟩ (.int .i64 u20)).setCell ⟨w.heap.size + 1, 1, none⟩ (.int .i64 u21)).setCell ⟨w.heap.size + 1, 2, none⟩ (.int .i64 u22)) w.heap.size 0 0 0) := Lib.hid R2b
  have K2 : Hid (CO a b c n N (((V2.setCell ⟨w.heap.size + 1, 0, none⟩ (.int .i64 u20)).setCell ⟨w.heap.size + 1, 1, none⟩ (.int .i64 u21)).setCell ⟨w.heap.size + 1, 2, none⟩ (.int .i64 u22)) m B gl gx gp kl kx L) := Lib.hid K2c
  have HG2 : Hid (w.grownBy (((V2.setCell ⟨w.heap.size + 1, 0, none⟩ (.int .i64 u20)).setCell ⟨w.heap.size + 1, 1, none⟩ (.int .i64 u21)).setCell ⟨w.heap.size + 1, 2, none⟩ (.int .i64 u22)) (some gp)) := Lib.hid G2b
  have HU20 := Lib.hid hu20
  have HU21 := Lib.hid hu21
  have HU22 := Lib.hid hu22
  clear F2b R2b K2c G2b Gs2 HFa2 HRa2 HKb2 HGa2 hu20 hu21 hu22 f20 f21 f22 ff2 fl2
  generalize ((V2.setCell ⟨w.heap.size + 1, 0, none⟩ (.int .i64 u20)).setCell ⟨w.heap.size + 1, 1, none⟩ (.int .i64 u21)).setCell ⟨w.heap.size + 1, 2, none⟩ (.int .i64 u22) = X2 at *
  go_wp2_with (fail)
  rw [rounds_succ]
  go_wp2
  rw [rounds_succ]
  go_wp2
  rw [rounds_succ]
  go_wp2
  refine wp_loop_rounds 3 ?_
  rw [rounds_succ]
  have cp3 := K2.out.cp
  have lb3 := K2.out.lb
  go_wp2_with (first | ((with_reducible refine (c3 _ K2.out).mono ?_); clear c3; rintro e' U3 ⟨rfl, hg3, hp3⟩; have K3a := K2.out.touch hg3 hp3; have cq3 := K3a.cp; have lq3 := K3a.lb; have hK3 := Lib.hid K3a; have hG3 := Lib.hid hg3; have hP3 := Lib.hid hp3; clear K3a hg3 hp3 cp3 lb3) | ((with_reducible refine (t3 _ hP3.out).mono ?_); clear t3; rintro e' V3 ⟨rfl, hv3⟩; have bv3 := Lib.hid hv3; clear hv3 cq3 lq3))
  have F3a := (HF2.out.far hG3.out (by simp; exact nF)).far (row := none) (grown_ofB bv3.out) (by simp)
  have R3a := (HR2.out.far hG3.out (by simp; exact nR)).far (row := none) (grown_ofB bv3.out) (by simp)
  have K3b := hK3.out.later bv3.out
  have G3a := (HG2.out.trans hG3.out).trans (grown_ofB (row := some gp) bv3.out)
  have f30 := F3a.c0
  have f31 := F3a.c1
  have f32 := F3a.c2
  have ff3 := F3a.free
  have fl3 := F3a.lt
  have HFa3 := Lib.hid F3a
  have HRa3 := Lib.hid R3a
  have HKb3 := Lib.hid K3b
  have HGa3 := Lib.hid G3a
  clear F3a R3a K3b G3a HF2 HR2 HG2 K2 hK3 hG3 hP3 bv3
  refine wp_loop_rounds 4 ?_
  rw [rounds_succ]
  go_wp2
  rw [rounds_succ]
  go_wp2
  rw [rounds_succ]
  go_wp2
  rw [rounds_succ]
  obtain ⟨u30, hu30⟩ : ∃ u : Int, u20 + r30 = u := ⟨_, rfl⟩
  have y30 : -6 ≤ u30 := by omega
  have yy30 : u30 ≤ 6 := by omega
  obtain ⟨u31, hu31⟩ : ∃ u : Int, u21 + r31 = u := ⟨_, rfl⟩
  have y31 : -6 ≤ u31 := by omega
  have yy31 : u31 ≤ 6 := by omega
  obtain ⟨u32, hu32⟩ : ∃ u : Int, u22 + r32 = u := ⟨_, rfl⟩
  have y32 : -6 ≤ u32 := by omega
  have yy32 : u32 ≤ 6 := by omega
  rw [hu30, hu31, hu32]
  have F3b : T3 (((V3.setCell ⟨w.heap.size + 1, 0, none⟩ (.int .i64 u30)).setCell ⟨w.heap.size + 1, 1, none⟩ (.int .i64 u31)).setCell ⟨w.heap.size + 1, 2, none⟩ (.int .i64 u32)) (w.heap.size + 1) u30 u31 u32 := HFa3.out.put _ _ _
  have Gs3 := grown_setCells (w.heap.size + 1) [.int .i64 u30, .int .i64 u31, .int .i64 u32] 0 V3
  have R3b := HRa3.out.far Gs3 (by simp)
  have K3c := HKb3.out.far Gs3 (by simp; exact Ne.symm nB) (by simp; exact Ne.symm nl) (by simp; exact Ne.symm nx) (by simp; exact Ne.symm nF)
  have G3b := HGa3.out.andThen Gs3 (fun j hj => .inl (by simp at hj; omega))
  have HF3 := Lib.hid F3b
  have HR3 : Hid (T3 (((V3.setCell ⟨w.heap.size + 1, 0, none⟩ (.int .i64 u30)).setCell ⟨w.heap.size + 1, 1, none⟩ (.int .i64 u31)).setCell ⟨w.heap.size + 1, 2, none⟩ (.int .i64 u32)) w.heap.size 0 0 0) := Lib.hid R3b
  have K3 : Hid (CO a b c n N (((V3.setCell ⟨w.heap.size + 1, 0, none⟩ (.int .i64 u30)).setCell ⟨w.heap.size + 1, 1, none⟩ (.int .i64 u31)).setCell ⟨w.heap.size + 1, 2, none⟩ (.int .i64 u32)) m B gl gx gp kl kx L) := Lib.hid K3c
  have HG3 : Hid (w.grownBy (((V3.setCell ⟨w.heap.size + 1, 0, none⟩ (.int .i64 u30)).setCell ⟨w.heap.size + 1, 1, none⟩ (.int .i64 u31)).setCell ⟨w.heap.size + 1, 2, none⟩ (.int .i64 u32)) (some gp)) := Lib.hid G3b
  have HU30 := Lib.hid hu30
  have HU31 := Lib.hid hu31
  have HU32 := Lib.hid hu32
  clear F3b R3b K3c G3b Gs3 HFa3 HRa3 HKb3 HGa3 hu30 hu31 hu32 f30 f31 f32 ff3 fl3
  generalize ((V3.setCell ⟨w.heap.size + 1, 0, none⟩ (.int .i64 u30)).setCell ⟨w.heap.size + 1, 1, none⟩ (.int .i64 u31)).setCell ⟨w.heap.size + 1, 2, none⟩ (.int .i64 u32) = X3 at *
  go_wp2_with (fail)
  rw [rounds_succ]
  have cp4 := K3.out.cp
  have lb4 := K3.out.lb
  go_wp2_with (first | ((with_reducible refine (c4 _ K3.out).mono ?_); clear c4; rintro e' U4 ⟨rfl, hg4, hp4⟩; have K4a := K3.out.touch hg4 hp4; have cq4 := K4a.cp; have lq4 := K4a.lb; have hK4 := Lib.hid K4a; have hG4 := Lib.hid hg4; have hP4 := Lib.hid hp4; clear K4a hg4 hp4 cp4 lb4) | ((with_reducible refine (t4 _ hP4.out).mono ?_); clear t4; rintro e' V4 ⟨rfl, hv4⟩; have bv4 := Lib.hid hv4; clear hv4 cq4 lq4))
  have F4a := (HF3.out.far hG4.out (by simp; exact nF)).far (row := none) (grown_ofB bv4.out) (by simp)
  have R4a := (HR3.out.far hG4.out (by simp; exact nR)).far (row := none) (grown_ofB bv4.out) (by simp)
  have K4b := hK4.out.later bv4.out
  have G4a := (HG3.out.trans hG4.out).trans (grown_ofB (row := some gp) bv4.out)
  have f40 := F4a.c0
  have f41 := F4a.c1
  have f42 := F4a.c2
  have ff4 := F4a.free
  have fl4 := F4a.lt
  have HFa4 := Lib.hid F4a
  have HRa4 := Lib.hid R4a
  have HKb4 := Lib.hid K4b
  have HGa4 := Lib.hid G4a
  clear F4a R4a K4b G4a HF3 HR3 HG3 K3 hK4 hG4 hP4 bv4
  refine wp_loop_rounds 4 ?_
  rw [rounds_succ]
  go_wp2
  rw [rounds_succ]
  go_wp2
  rw [rounds_succ]
  go_wp2
  rw [rounds_succ]
  obtain ⟨u40, hu40⟩ : ∃ u : Int, u30 + r40 = u := ⟨_, rfl⟩
  have y40 : -8 ≤ u40 := by omega
  have yy40 : u40 ≤ 8 := by omega
  obtain ⟨u41, hu41⟩ : ∃ u : Int, u31 + r41 = u := ⟨_, rfl⟩
  have y41 : -8 ≤ u41 := by omega
  have yy41 : u41 ≤ 8 := by omega
  obtain ⟨u42, hu42⟩ : ∃ u : Int, u32 + r42 = u := ⟨_, rfl⟩
  have y42 : -8 ≤ u42 := by omega
  have yy42 : u42 ≤ 8 := by omega
  rw [hu40, hu41, hu42]
  have F4b : T3 (((V4.setCell ⟨w.heap.size + 1, 0, none⟩ (.int .i64 u40)).setCell ⟨w.heap.size + 1, 1, none⟩ (.int .i64 u41)).setCell ⟨w.heap.size + 1, 2, none⟩ (.int .i64 u42)) (w.heap.size + 1) u40 u41 u42 := HFa4.out.put _ _ _
  have Gs4 := grown_setCells (w.heap.size + 1) [.int .i64 u40, .int .i64 u41, .int .i64 u42] 0 V4
  have R4b := HRa4.out.far Gs4 (by simp)
  have K4c := HKb4.out.far Gs4 (by simp; exact Ne.symm nB) (by simp; exact Ne.symm nl) (by simp; exact Ne.symm nx) (by simp; exact Ne.symm nF)
  have G4b := HGa4.out.andThen Gs4 (fun j hj => .inl (by simp at hj; omega))
  have HF4 := Lib.hid F4b
  have HR4 : Hid (T3 (((V4.setCell ⟨w.heap.size + 1, 0, none⟩ (.int .i64 u40)).setCell ⟨w.heap.size + 1, 1, none⟩ (.int .i64 u41)).setCell ⟨w.heap.size + 1, 2, none⟩ (.int .i64 u42)) w.heap.size 0 0 0) := Lib.hid R4b
  have K4 : Hid (CO a b c n N (((V4.setCell ⟨w.heap.size + 1, 0, none⟩ (.int .i64 u40)).setCell ⟨w.heap.size + 1, 1, none⟩ (.int .i64 u41)).setCell ⟨w.heap.size + 1, 2, none⟩ (.int .i64 u42)) m B gl gx gp kl kx L) := Lib.hid K4c
  have HG4 : Hid (w.grownBy (((V4.setCell ⟨w.heap.size + 1, 0, none⟩ (.int .i64 u40)).setCell ⟨w.heap.size + 1, 1, none⟩ (.int .i64 u41)).setCell ⟨w.heap.size + 1, 2, none⟩ (.int .i64 u42)) (some gp)) := Lib.hid G4b
  have HU40 := Lib.hid hu40
  have HU41 := Lib.hid hu41
  have HU42 := Lib.hid hu42
  clear F4b R4b K4c G4b Gs4 HFa4 HRa4 HKb4 HGa4 hu40 hu41 hu42 f40 f41 f42 ff4 fl4
  generalize ((V4.setCell ⟨w.heap.size + 1, 0, none⟩ (.int .i64 u40)).setCell ⟨w.heap.size + 1, 1, none⟩ (.int .i64 u41)).setCell ⟨w.heap.size + 1, 2, none⟩ (.int .i64 u42) = X4 at *
  go_wp2_with (fail)
  rw [rounds_succ]
  go_wp2
  rw [rounds_succ]
  have rr0 := HR4.out.c0
  have rr1 := HR4.out.c1
  have rr2 := HR4.out.c2
  have rf := HR4.out.free
  have rl := HR4.out.lt
  have f0 := HF4.out.c0
  have f1 := HF4.out.c1
  have f2 := HF4.out.c2
  have fl := HF4.out.lt
  go_wp2
  have w0 : r10 + r20 + r30 + r40 = u40 := by have := HU10.out; have := HU20.out; have := HU30.out; have := HU40.out; omega
  have w1 : r11 + r21 + r31 + r41 = u41 := by have := HU11.out; have := HU21.out; have := HU31.out; have := HU41.out; omega
  have w2 : r12 + r22 + r32 + r42 = u42 := by have := HU12.out; have := HU22.out; have := HU32.out; have := HU42.out; omega
  rw [w0, w1, w2]
  have Gs := grown_setCells w.heap.size [.int .i64 u40, .int .i64 u41, .int .i64 u42] 0 X4
  refine bodyPost_ret (v := .agg #[.int .i64 u40, .int .i64 u41, .int .i64 u42]) (by simp [results, Tryz.results61, go_sem, rr0, rr1, rr2, rf, rl]) rfl ⟨rfl, ?_, ?_⟩
  · exact HG4.out.andThen Gs (fun j hj => .inl (by simp at hj; omega))
  · exact K4.out.pr.grown Gs (by simp; exact Ne.symm nR)
set_option maxHeartbeats 12800000 in
theorem force_d3 (a b c : Int) (n N : Nat) (w : World) (m B gl gx gp kl kx : Nat) (L : List Q) (s : Nat) (hC : CO a b c n N w m B gl gx gp kl kx L) (hF : Fl a b c L) (hS : ∀ x ∈ L, IsS x) (hn : L.length = n) (hN : (N : Int) = a * b * c) (hs : s < N) :
    Calls Tryz.prog 61 #[.pointer (some ⟨B, 0, none⟩), .int .i64 (3 * s + 2 : Nat)] w fun e' w' => e' = .returned (.agg #[.int .i64 (frA tb a b c L s 3), .int .i64 (frA tc a b c L s 3), .int .i64 (frA td a b c L s 3)]) ∧ w.grownBy w' (some gp) ∧ PR w' gp := by
  have hd : IsStep 3 := ⟨by omega, by omega, by omega⟩
  have hs0 : (0 : Int) ≤ s := by omega
  have hs1 : (s : Int) < a * b * c := by omega
  have S1 : IsS (pl4 a b c L s 3 1) := pl4_S hF hS hs0 hs1 hd ⟨by omega, by omega, by omega⟩
  have c1 := fun (X : World) (h : CO a b c n N X m B gl gx gp kl kx L) => along_pos a b c n N X m B gl gx gp kl kx L s 3 1 h hF hS hn hN hs (by omega) (by omega) (by omega) (by omega)
  have S2 : IsS (pl4 a b c L s 3 (-1)) := pl4_S hF hS hs0 hs1 hd ⟨by omega, by omega, by omega⟩
  have c2 := fun (X : World) (h : CO a b c n N X m B gl gx gp kl kx L) => along_neg a b c n N X m B gl gx gp kl kx L s 3 1 h hF hS hn hN hs (by omega) (by omega) (by omega) (by omega)
  have S3 : IsS (pl4 a b c L s 3 2) := pl4_S hF hS hs0 hs1 hd ⟨by omega, by omega, by omega⟩
  have c3 := fun (X : World) (h : CO a b c n N X m B gl gx gp kl kx L) => along_pos a b c n N X m B gl gx gp kl kx L s 3 2 h hF hS hn hN hs (by omega) (by omega) (by omega) (by omega)
  have S4 : IsS (pl4 a b c L s 3 (-2)) := pl4_S hF hS hs0 hs1 hd ⟨by omega, by omega, by omega⟩
  have c4 := fun (X : World) (h : CO a b c n N X m B gl gx gp kl kx L) => along_neg a b c n N X m B gl gx gp kl kx L s 3 2 h hF hS hn hN hs (by omega) (by omega) (by omega) (by omega)
  have eb : frA tb a b c L s 3 = tb (pl4 a b c L s 3 1) + tb (pl4 a b c L s 3 (-1)) + tb (pl4 a b c L s 3 2) + tb (pl4 a b c L s 3 (-2)) := rfl
  have ec : frA tc a b c L s 3 = tc (pl4 a b c L s 3 1) + tc (pl4 a b c L s 3 (-1)) + tc (pl4 a b c L s 3 2) + tc (pl4 a b c L s 3 (-2)) := rfl
  have ed : frA td a b c L s 3 = td (pl4 a b c L s 3 1) + td (pl4 a b c L s 3 (-1)) + td (pl4 a b c L s 3 2) + td (pl4 a b c L s 3 (-2)) := rfl
  rw [eb, ec, ed]
  clear eb ec ed
  generalize pl4 a b c L s 3 1 = q1 at *
  have t1 := fun (X : World) (h : PR X gp) => twice_any gp q1 X h S1
  obtain ⟨-, -, -, -, ⟨x10, x11⟩, ⟨x12, x13⟩, ⟨x14, x15⟩⟩ := S1.tw
  have ia1 := ixC0 (tb q1) (tc q1) (td q1)
  have ib1 := ixC1 (tb q1) (tc q1) (td q1)
  have ic1 := ixC2 (tb q1) (tc q1) (td q1)
  generalize tb q1 = r10 at *
  generalize tc q1 = r11 at *
  generalize td q1 = r12 at *
  generalize pl4 a b c L s 3 (-1) = q2 at *
  have t2 := fun (X : World) (h : PR X gp) => twice_any gp q2 X h S2
  obtain ⟨-, -, -, -, ⟨x20, x21⟩, ⟨x22, x23⟩, ⟨x24, x25⟩⟩ := S2.tw
  have ia2 := ixC0 (tb q2) (tc q2) (td q2)
  have ib2 := ixC1 (tb q2) (tc q2) (td q2)
  have ic2 := ixC2 (tb q2) (tc q2) (td q2)
  generalize tb q2 = r20 at *
  generalize tc q2 = r21 at *
  generalize td q2 = r22 at *
  generalize pl4 a b c L s 3 2 = q3 at *
  have t3 := fun (X : World) (h : PR X gp) => twice_any gp q3 X h S3
  obtain ⟨-, -, -, -, ⟨x30, x31⟩, ⟨x32, x33⟩, ⟨x34, x35⟩⟩ := S3.tw
  have ia3 := ixC0 (tb q3) (tc q3) (td q3)
  have ib3 := ixC1 (tb q3) (tc q3) (td q3)
  have ic3 := ixC2 (tb q3) (tc q3) (td q3)
  generalize tb q3 = r30 at *
  generalize tc q3 = r31 at *
  generalize td q3 = r32 at *
  generalize pl4 a b c L s 3 (-2) = q4 at *
  have t4 := fun (X : World) (h : PR X gp) => twice_any gp q4 X h S4
  obtain ⟨-, -, -, -, ⟨x40, x41⟩, ⟨x42, x43⟩, ⟨x44, x45⟩⟩ := S4.tw
  have ia4 := ixC0 (tb q4) (tc q4) (td q4)
  have ib4 := ixC1 (tb q4) (tc q4) (td q4)
  have ic4 := ixC2 (tb q4) (tc q4) (td q4)
  generalize tb q4 = r40 at *
  generalize tc q4 = r41 at *
  generalize td q4 = r42 at *
  have hn16 : N ≤ 16 := by have := hF.z.p; omega
  have lB := hC.lb
  have lgp := hC.pr.lt
  have lgl := hC.li.lt
  have lgx := hC.nx.lt (by omega)
  have HC := Lib.hid hC
  have d1 : ((3 * s + 2 : Nat) : Int) / 3 = s := by omega
  have d2 : ((3 * s + 2 : Nat) : Int) % 3 = 2 := by omega
  have d3 : ((3 * s + 2 : Nat) : Int) ≤ 1000 := by omega
  have d4 : (0 : Int) ≤ ((3 * s + 2 : Nat) : Int) := by omega
  have b1 := ixB0 1 (-1)
  have b2 := ixB1 1 (-1)
  have b3 := ixB0 2 (-2)
  have b4 := ixB1 2 (-2)
  clear hC hF hS hn hN hs hd hs0 hs1 S1 S2 S3 S4
  generalize ((3 * s + 2 : Nat) : Int) = i at *
  go_enter Tryz.func61, Tryz.ntmps61
  go_wp2
  have R0 : T3 ((w.alloc (.cells #[.int .i64 0, .int .i64 0, .int .i64 0] 22)).alloc (.cells #[.int .i64 0, .int .i64 0, .int .i64 0] 22)) w.heap.size 0 0 0 := ⟨by simp [go_sem], by simp [go_sem], by simp [go_sem], fun j => by simp [go_sem], by simp <;> omega⟩
  have F0 : T3 ((w.alloc (.cells #[.int .i64 0, .int .i64 0, .int .i64 0] 22)).alloc (.cells #[.int .i64 0, .int .i64 0, .int .i64 0] 22)) (w.heap.size + 1) 0 0 0 := by exact ⟨by simp [go_sem], by simp [go_sem], by simp [go_sem], fun j => by simp [go_sem], by simp <;> omega⟩
  have G0 : w.grownBy ((w.alloc (.cells #[.int .i64 0, .int .i64 0, .int .i64 0] 22)).alloc (.cells #[.int .i64 0, .int .i64 0, .int .i64 0] 22)) (some gp) := grown_ofB (by repeat (first | (with_reducible exact Below.refl _ _) | (with_reducible refine Below.setCell ?_ ?_ _) | (with_reducible refine Below.drew ?_) | (with_reducible refine Below.alloc ?_ ?_ _) | omega | (simp <;> omega)))
  have K0 := Lib.hid (HC.out.later (show Below w.heap.size w ((w.alloc (.cells #[.int .i64 0, .int .i64 0, .int .i64 0] 22)).alloc (.cells #[.int .i64 0, .int .i64 0, .int .i64 0] 22)) by repeat (first | (with_reducible exact Below.refl _ _) | (with_reducible refine Below.setCell ?_ ?_ _) | (with_reducible refine Below.drew ?_) | (with_reducible refine Below.alloc ?_ ?_ _) | omega | (simp <;> omega))))
  have HR0 := Lib.hid R0
  have HF0 := Lib.hid F0
  have HG0 := Lib.hid G0
  clear R0 F0 G0 HC
  generalize (w.alloc (.cells #[.int .i64 0, .int .i64 0, .int .i64 0] 22)).alloc (.cells #[.int .i64 0, .int .i64 0, .int .i64 0] 22) = X0 at *
  obtain ⟨z, hz1, hz2, HFz⟩ : ∃ z : Int, z ≤ 0 ∧ 0 ≤ z ∧ Hid (T3 X0 (w.heap.size + 1) z z z) := ⟨0, by omega, by omega, HF0⟩
  clear HF0
  have HF0 := HFz
  clear HFz
  have nF : w.heap.size + 1 ≠ gp := by omega
  have nR : w.heap.size ≠ gp := by omega
  have nB : w.heap.size + 1 ≠ B := by omega
  have nl : w.heap.size + 1 ≠ gl := by omega
  have nx : w.heap.size + 1 ≠ gx := by omega
  refine wp_loop_rounds 4 ?_
  rw [rounds_succ]
  go_wp2
  refine wp_loop_rounds 3 ?_
  rw [rounds_succ]
  have cp1 := K0.out.cp
  have lb1 := K0.out.lb
  go_wp2_with (first | ((with_reducible refine (c1 _ K0.out).mono ?_); clear c1; rintro e' U1 ⟨rfl, hg1, hp1⟩; have K1a := K0.out.touch hg1 hp1; have cq1 := K1a.cp; have lq1 := K1a.lb; have hK1 := Lib.hid K1a; have hG1 := Lib.hid hg1; have hP1 := Lib.hid hp1; clear K1a hg1 hp1 cp1 lb1) | ((with_reducible refine (t1 _ hP1.out).mono ?_); clear t1; rintro e' V1 ⟨rfl, hv1⟩; have bv1 := Lib.hid hv1; clear hv1 cq1 lq1))
  have F1a := (HF0.out.far hG1.out (by simp; exact nF)).far (row := none) (grown_ofB bv1.out) (by simp)
  have R1a := (HR0.out.far hG1.out (by simp; exact nR)).far (row := none) (grown_ofB bv1.out) (by simp)
  have K1b := hK1.out.later bv1.out
  have G1a := (HG0.out.trans hG1.out).trans (grown_ofB (row := some gp) bv1.out)
  have f10 := F1a.c0
  have f11 := F1a.c1
  have f12 := F1a.c2
  have ff1 := F1a.free
  have fl1 := F1a.lt
  have HFa1 := Lib.hid F1a
  have HRa1 := Lib.hid R1a
  have HKb1 := Lib.hid K1b
  have HGa1 := Lib.hid G1a
  clear F1a R1a K1b G1a HF0 HR0 HG0 K0 hK1 hG1 hP1 bv1
  refine wp_loop_rounds 4 ?_
  rw [rounds_succ]
  go_wp2
  rw [rounds_succ]
  go_wp2
  rw [rounds_succ]
  go_wp2
  rw [rounds_succ]
  obtain ⟨u10, hu10⟩ : ∃ u : Int, z + r10 = u := ⟨_, rfl⟩
  have y10 : -2 ≤ u10 := by omega
  have yy10 : u10 ≤ 2 := by omega
  obtain ⟨u11, hu11⟩ : ∃ u : Int, z + r11 = u := ⟨_, rfl⟩
  have y11 : -2 ≤ u11 := by omega
  have yy11 : u11 ≤ 2 := by omega
  obtain ⟨u12, hu12⟩ : ∃ u : Int, z + r12 = u := ⟨_, rfl⟩
  have y12 : -2 ≤ u12 := by omega
  have yy12 : u12 ≤ 2 := by omega
  rw [hu10, hu11, hu12]
  have F1b : T3 (((V1.setCell ⟨w.heap.size + 1, 0, none⟩ (.int .i64 u10)).setCell ⟨w.heap.size + 1, 1, none⟩ (.int .i64 u11)).setCell ⟨w.heap.size + 1, 2, none⟩ (.int .i64 u12)) (w.heap.size + 1) u10 u11 u12 := HFa1.out.put _ _ _
  have Gs1 := grown_setCells (w.heap.size + 1) [.int .i64 u10, .int .i64 u11, .int .i64 u12] 0 V1
  have R1b := HRa1.out.far Gs1 (by simp)
  have K1c := HKb1.out.far Gs1 (by simp; exact Ne.symm nB) (by simp; exact Ne.symm nl) (by simp; exact Ne.symm nx) (by simp; exact Ne.symm nF)
  have G1b := HGa1.out.andThen Gs1 (fun j hj => .inl (by simp at hj; omega))
  have HF1 := Lib.hid F1b
  have HR1 : Hid (T3 (((V1.setCell ⟨w.heap.size + 1, 0, none⟩ (.int .i64 u10)).setCell ⟨w.heap.size + 1, 1, none⟩ (.int .i64 u11)).setCell ⟨w.heap.size + 1, 2, none⟩ (.int .i64 u12)) w.heap.size 0 0 0) := Lib.hid R1b
  have K1 : Hid (CO a b c n N (((V1.setCell ⟨w.heap.size + 1, 0, none⟩ (.int .i64 u10)).setCell ⟨w.heap.size + 1, 1, none⟩ (.int .i64 u11)).setCell ⟨w.heap.size + 1, 2, none⟩ (.int .i64 u12)) m B gl gx gp kl kx L) := Lib.hid K1c
  have HG1 : Hid (w.grownBy (((V1.setCell ⟨w.heap.size + 1, 0, none⟩ (.int .i64 u10)).setCell ⟨w.heap.size + 1, 1, none⟩ (.int .i64 u11)).setCell ⟨w.heap.size + 1, 2, none⟩ (.int .i64 u12)) (some gp)) := Lib.hid G1b
  have HU10 := Lib.hid hu10
  have HU11 := Lib.hid hu11
  have HU12 := Lib.hid hu12
  clear F1b R1b K1c G1b Gs1 HFa1 HRa1 HKb1 HGa1 hu10 hu11 hu12 f10 f11 f12 ff1 fl1
  generalize ((V1.setCell ⟨w.heap.size + 1, 0, none⟩ (.int .i64 u10)).setCell ⟨w.heap.size + 1, 1, none⟩ (.int .i64 u11)).setCell ⟨w.heap.size + 1, 2, none⟩ (.int .i64 u12) = X1 at *
  go_wp2_with (fail)
  rw [rounds_succ]
  have cp2 := K1.out.cp
  have lb2 := K1.out.lb
  go_wp2_with (first | ((with_reducible refine (c2 _ K1.out).mono ?_); clear c2; rintro e' U2 ⟨rfl, hg2, hp2⟩; have K2a := K1.out.touch hg2 hp2; have cq2 := K2a.cp; have lq2 := K2a.lb; have hK2 := Lib.hid K2a; have hG2 := Lib.hid hg2; have hP2 := Lib.hid hp2; clear K2a hg2 hp2 cp2 lb2) | ((with_reducible refine (t2 _ hP2.out).mono ?_); clear t2; rintro e' V2 ⟨rfl, hv2⟩; have bv2 := Lib.hid hv2; clear hv2 cq2 lq2))
  have F2a := (HF1.out.far hG2.out (by simp; exact nF)).far (row := none) (grown_ofB bv2.out) (by simp)
  have R2a := (HR1.out.far hG2.out (by simp; exact nR)).far (row := none) (grown_ofB bv2.out) (by simp)
  have K2b := hK2.out.later bv2.out
  have G2a := (HG1.out.trans hG2.out).trans (grown_ofB (row := some gp) bv2.out)
  have f20 := F2a.c0
  have f21 := F2a.c1
  have f22 := F2a.c2
  have ff2 := F2a.free
  have fl2 := F2a.lt
  have HFa2 := Lib.hid F2a
  have HRa2 := Lib.hid R2a
  have HKb2 := Lib.hid K2b
  have HGa2 := Lib.hid G2a
  clear F2a R2a K2b G2a HF1 HR1 HG1 K1 hK2 hG2 hP2 bv2
  refine wp_loop_rounds 4 ?_
  rw [rounds_succ]
  go_wp2
  rw [rounds_succ]
  go_wp2
  rw [rounds_succ]
  go_wp2
  rw [rounds_succ]
  obtain ⟨u20, hu20⟩ : ∃ u : Int, u10 + r20 = u := ⟨_, rfl⟩
  have y20 : -4 ≤ u20 := by omega
  have yy20 : u20 ≤ 4 := by omega
  obtain ⟨u21, hu21⟩ : ∃ u : Int, u11 + r21 = u := ⟨_, rfl⟩
  have y21 : -4 ≤ u21 := by omega
  have yy21 : u21 ≤ 4 := by omega
  obtain ⟨u22, hu22⟩ : ∃ u : Int, u12 + r22 = u := ⟨_, rfl⟩
  have y22 : -4 ≤ u22 := by omega
  have yy22 : u22 ≤ 4 := by omega
  rw [hu20, hu21, hu22]
  have F2b : T3 (((V2.setCell ⟨w.heap.size + 1, 0, none⟩ (.int .i64 u20)).setCell ⟨w.heap.size + 1, 1, none⟩ (.int .i64 u21)).setCell ⟨w.heap.size + 1, 2, none⟩ (.int .i64 u22)) (w.heap.size + 1) u20 u21 u22 := HFa2.out.put _ _ _
  have Gs2 := grown_setCells (w.heap.size + 1) [.int .i64 u20, .int .i64 u21, .int .i64 u22] 0 V2
  have R2b := HRa2.out.far Gs2 (by simp)
  have K2c := HKb2.out.far Gs2 (by simp; exact Ne.symm nB) (by simp; exact Ne.symm nl) (by simp; exact Ne.symm nx) (by simp; exact Ne.symm nF)
  have G2b := HGa2.out.andThen Gs2 (fun j hj => .inl (by simp at hj; omega))
  have HF2 := Lib.hid F2b
  have HR2 : Hid (T3 (((V2.setCell ⟨w.heap.size + 1, 0, none⟩ (.int .i64 u20)).setCell ⟨w.heap.size + 1, 1, none⟩ (.int .i64 u21)).setCell ⟨w.heap.size + 1, 2, none⟩ (.int .i64 u22)) w.heap.size 0 0 0) := Lib.hid R2b
  have K2 : Hid (CO a b c n N (((V2.setCell ⟨w.heap.size + 1, 0, none⟩ (.int .i64 u20)).setCell ⟨w.heap.size + 1, 1, none⟩ (.int .i64 u21)).setCell ⟨w.heap.size + 1, 2, none⟩ (.int .i64 u22)) m B gl gx gp kl kx L) := Lib.hid K2c
  have HG2 : Hid (w.grownBy (((V2.setCell ⟨w.heap.size + 1, 0, none⟩ (.int .i64 u20)).setCell ⟨w.heap.size + 1, 1, none⟩ (.int .i64 u21)).setCell ⟨w.heap.size + 1, 2, none⟩ (.int .i64 u22)) (some gp)) := Lib.hid G2b
  have HU20 := Lib.hid hu20
  have HU21 := Lib.hid hu21
  have HU22 := Lib.hid hu22
  clear F2b R2b K2c G2b Gs2 HFa2 HRa2 HKb2 HGa2 hu20 hu21 hu22 f20 f21 f22 ff2 fl2
  generalize ((V2.setCell ⟨w.heap.size + 1, 0, none⟩ (.int .i64 u20)).setCell ⟨w.heap.size + 1, 1, none⟩ (.int .i64 u21)).setCell ⟨w.heap.size + 1, 2, none⟩ (.int .i64 u22) = X2 at *
  go_wp2_with (fail)
  rw [rounds_succ]
  go_wp2
  rw [rounds_succ]
  go_wp2
  refine wp_loop_rounds 3 ?_
  rw [rounds_succ]
  have cp3 := K2.out.cp
  have lb3 := K2.out.lb
  go_wp2_with (first | ((with_reducible refine (c3 _ K2.out).mono ?_); clear c3; rintro e' U3 ⟨rfl, hg3, hp3⟩; have K3a := K2.out.touch hg3 hp3; have cq3 := K3a.cp; have lq3 := K3a.lb; have hK3 := Lib.hid K3a; have hG3 := Lib.hid hg3; have hP3 := Lib.hid hp3; clear K3a hg3 hp3 cp3 lb3) | ((with_reducible refine (t3 _ hP3.out).mono ?_); clear t3; rintro e' V3 ⟨rfl, hv3⟩; have bv3 := Lib.hid hv3; clear hv3 cq3 lq3))
  have F3a := (HF2.out.far hG3.out (by simp; exact nF)).far (row := none) (grown_ofB bv3.out) (by simp)
  have R3a := (HR2.out.far hG3.out (by simp; exact nR)).far (row := none) (grown_ofB bv3.out) (by simp)
  have K3b := hK3.out.later bv3.out
  have G3a := (HG2.out.trans hG3.out).trans (grown_ofB (row := some gp) bv3.out)
  have f30 := F3a.c0
  have f31 := F3a.c1
  have f32 := F3a.c2
  have ff3 := F3a.free
  have fl3 := F3a.lt
  have HFa3 := Lib.hid F3a
  have HRa3 := Lib.hid R3a
  have HKb3 := Lib.hid K3b
  have HGa3 := Lib.hid G3a
  clear F3a R3a K3b G3a HF2 HR2 HG2 K2 hK3 hG3 hP3 bv3
  refine wp_loop_rounds 4 ?_
  rw [rounds_succ]
  go_wp2
  rw [rounds_succ]
  go_wp2
  rw [rounds_succ]
  go_wp2
  rw [rounds_succ]
  obtain ⟨u30, hu30⟩ : ∃ u : Int, u20 + r30 = u := ⟨_, rfl⟩
  have y30 : -6 ≤ u30 := by omega
  have yy30 : u30 ≤ 6 := by omega
  obtain ⟨u31, hu31⟩ : ∃ u : Int, u21 + r31 = u := ⟨_, rfl⟩
  have y31 : -6 ≤ u31 := by omega
  have yy31 : u31 ≤ 6 := by omega
  obtain ⟨u32, hu32⟩ : ∃ u : Int, u22 + r32 = u := ⟨_, rfl⟩
  have y32 : -6 ≤ u32 := by omega
  have yy32 : u32 ≤ 6 := by omega
  rw [hu30, hu31, hu32]
  have F3b : T3 (((V3.setCell ⟨w.heap.size + 1, 0, none⟩ (.int .i64 u30)).setCell ⟨w.heap.size + 1, 1, none⟩ (.int .i64 u31)).setCell ⟨w.heap.size + 1, 2, none⟩ (.int .i64 u32)) (w.heap.size + 1) u30 u31 u32 := HFa3.out.put _ _ _
  have Gs3 := grown_setCells (w.heap.size + 1) [.int .i64 u30, .int .i64 u31, .int .i64 u32] 0 V3
  have R3b := HRa3.out.far Gs3 (by simp)
  have K3c := HKb3.out.far Gs3 (by simp; exact Ne.symm nB) (by simp; exact Ne.symm nl) (by simp; exact Ne.symm nx) (by simp; exact Ne.symm nF)
  have G3b := HGa3.out.andThen Gs3 (fun j hj => .inl (by simp at hj; omega))
  have HF3 := Lib.hid F3b
  have HR3 : Hid (T3 (((V3.setCell ⟨w.heap.size + 1, 0, none⟩ (.int .i64 u30)).setCell ⟨w.heap.size + 1, 1, none⟩ (.int .i64 u31)).setCell ⟨w.heap.size + 1, 2, none⟩ (.int .i64 u32)) w.heap.size 0 0 0) := Lib.hid R3b
  have K3 : Hid (CO a b c n N (((V3.setCell ⟨w.heap.size + 1, 0, none⟩ (.int .i64 u30)).setCell ⟨w.heap.size + 1, 1, none⟩ (.int .i64 u31)).setCell ⟨w.heap.size + 1, 2, none⟩ (.int .i64 u32)) m B gl gx gp kl kx L) := Lib.hid K3c
  have HG3 : Hid (w.grownBy (((V3.setCell ⟨w.heap.size + 1, 0, none⟩ (.int .i64 u30)).setCell ⟨w.heap.size + 1, 1, none⟩ (.int .i64 u31)).setCell ⟨w.heap.size + 1, 2, none⟩ (.int .i64 u32)) (some gp)) := Lib.hid G3b
  have HU30 := Lib.hid hu30
  have HU31 := Lib.hid hu31
  have HU32 := Lib.hid hu32
  clear F3b R3b K3c G3b Gs3 HFa3 HRa3 HKb3 HGa3 hu30 hu31 hu32 f30 f31 f32 ff3 fl3
  generalize ((V3.setCell ⟨w.heap.size + 1, 0, none⟩ (.int .i64 u30)).setCell ⟨w.heap.size + 1, 1, none⟩ (.int .i64 u31)).setCell ⟨w.heap.size + 1, 2, none⟩ (.int .i64 u32) = X3 at *
  go_wp2_with (fail)
  rw [rounds_succ]
  have cp4 := K3.out.cp
  have lb4 := K3.out.lb
  go_wp2_with (first | ((with_reducible refine (c4 _ K3.out).mono ?_); clear c4; rintro e' U4 ⟨rfl, hg4, hp4⟩; have K4a := K3.out.touch hg4 hp4; have cq4 := K4a.cp; have lq4 := K4a.lb; have hK4 := Lib.hid K4a; have hG4 := Lib.hid hg4; have hP4 := Lib.hid hp4; clear K4a hg4 hp4 cp4 lb4) | ((with_reducible refine (t4 _ hP4.out).mono ?_); clear t4; rintro e' V4 ⟨rfl, hv4⟩; have bv4 := Lib.hid hv4; clear hv4 cq4 lq4))
  have F4a := (HF3.out.far hG4.out (by simp; exact nF)).far (row := none) (grown_ofB bv4.out) (by simp)
  have R4a := (HR3.out.far hG4.out (by simp; exact nR)).far (row := none) (grown_ofB bv4.out) (by simp)
  have K4b := hK4.out.later bv4.out
  have G4a := (HG3.out.trans hG4.out).trans (grown_ofB (row := some gp) bv4.out)
  have f40 := F4a.c0
  have f41 := F4a.c1
  have f42 := F4a.c2
  have ff4 := F4a.free
  have fl4 := F4a.lt
  have HFa4 := Lib.hid F4a
  have HRa4 := Lib.hid R4a
  have HKb4 := Lib.hid K4b
  have HGa4 := Lib.hid G4a
  clear F4a R4a K4b G4a HF3 HR3 HG3 K3 hK4 hG4 hP4 bv4
  refine wp_loop_rounds 4 ?_
  rw [rounds_succ]
  go_wp2
  rw [rounds_succ]
  go_wp2
  rw [rounds_succ]
  go_wp2
  rw [rounds_succ]
  obtain ⟨u40, hu40⟩ : ∃ u : Int, u30 + r40 = u := ⟨_, rfl⟩
  have y40 : -8 ≤ u40 := by omega
  have yy40 : u40 ≤ 8 := by omega
  obtain ⟨u41, hu41⟩ : ∃ u : Int, u31 + r41 = u := ⟨_, rfl⟩
  have y41 : -8 ≤ u41 := by omega
  have yy41 : u41 ≤ 8 := by omega
  obtain ⟨u42, hu42⟩ : ∃ u : Int, u32 + r42 = u := ⟨_, rfl⟩
  have y42 : -8 ≤ u42 := by omega
  have yy42 : u42 ≤ 8 := by omega
  rw [hu40, hu41, hu42]
  have F4b : T3 (((V4.setCell ⟨w.heap.size + 1, 0, none⟩ (.int .i64 u40)).setCell ⟨w.heap.size + 1, 1, none⟩ (.int .i64 u41)).setCell ⟨w.heap.size + 1, 2, none⟩ (.int .i64 u42)) (w.heap.size + 1) u40 u41 u42 := HFa4.out.put _ _ _
  have Gs4 := grown_setCells (w.heap.size + 1) [.int .i64 u40, .int .i64 u41, .int .i64 u42] 0 V4
  have R4b := HRa4.out.far Gs4 (by simp)
  have K4c := HKb4.out.far Gs4 (by simp; exact Ne.symm nB) (by simp; exact Ne.symm nl) (by simp; exact Ne.symm nx) (by simp; exact Ne.symm nF)
  have G4b := HGa4.out.andThen Gs4 (fun j hj => .inl (by simp at hj; omega))
  have HF4 := Lib.hid F4b
  have HR4 : Hid (T3 (((V4.setCell ⟨w.heap.size + 1, 0, none⟩ (.int .i64 u40)).setCell ⟨w.heap.size + 1, 1, none⟩ (.int .i64 u41)).setCell ⟨w.heap.size + 1, 2, none⟩ (.int .i64 u42)) w.heap.size 0 0 0) := Lib.hid R4b
  have K4 : Hid (CO a b c n N (((V4.setCell ⟨w.heap.size + 1, 0, none⟩ (.int .i64 u40)).setCell ⟨w.heap.size + 1, 1, none⟩ (.int .i64 u41)).setCell ⟨w.heap.size + 1, 2, none⟩ (.int .i64 u42)) m B gl gx gp kl kx L) := Lib.hid K4c
  have HG4 : Hid (w.grownBy (((V4.setCell ⟨w.heap.size + 1, 0, none⟩ (.int .i64 u40)).setCell ⟨w.heap.size + 1, 1, none⟩ (.int .i64 u41)).setCell ⟨w.heap.size + 1, 2, none⟩ (.int .i64 u42)) (some gp)) := Lib.hid G4b
  have HU40 := Lib.hid hu40
  have HU41 := Lib.hid hu41
  have HU42 := Lib.hid hu42
  clear F4b R4b K4c G4b Gs4 HFa4 HRa4 HKb4 HGa4 hu40 hu41 hu42 f40 f41 f42 ff4 fl4
  generalize ((V4.setCell ⟨w.heap.size + 1, 0, none⟩ (.int .i64 u40)).setCell ⟨w.heap.size + 1, 1, none⟩ (.int .i64 u41)).setCell ⟨w.heap.size + 1, 2, none⟩ (.int .i64 u42) = X4 at *
  go_wp2_with (fail)
  rw [rounds_succ]
  go_wp2
  rw [rounds_succ]
  go_wp2
  rw [rounds_succ]
  have rr0 := HR4.out.c0
  have rr1 := HR4.out.c1
  have rr2 := HR4.out.c2
  have rf := HR4.out.free
  have rl := HR4.out.lt
  have f0 := HF4.out.c0
  have f1 := HF4.out.c1
  have f2 := HF4.out.c2
  have fl := HF4.out.lt
  go_wp2
  have w0 : r10 + r20 + r30 + r40 = u40 := by have := HU10.out; have := HU20.out; have := HU30.out; have := HU40.out; omega
  have w1 : r11 + r21 + r31 + r41 = u41 := by have := HU11.out; have := HU21.out; have := HU31.out; have := HU41.out; omega
  have w2 : r12 + r22 + r32 + r42 = u42 := by have := HU12.out; have := HU22.out; have := HU32.out; have := HU42.out; omega
  rw [w0, w1, w2]
  have Gs := grown_setCells w.heap.size [.int .i64 u40, .int .i64 u41, .int .i64 u42] 0 X4
  refine bodyPost_ret (v := .agg #[.int .i64 u40, .int .i64 u41, .int .i64 u42]) (by simp [results, Tryz.results61, go_sem, rr0, rr1, rr2, rf, rl]) rfl ⟨rfl, ?_, ?_⟩
  · exact HG4.out.andThen Gs (fun j hj => .inl (by simp at hj; omega))
  · exact K4.out.pr.grown Gs (by simp; exact Ne.symm nR)
/-- The force on a link. -/
theorem forceC_any (a b c : Int) (n N : Nat) (w : World) (m B gl gx gp kl kx : Nat) (L : List Q) (i : Nat) (hC : CO a b c n N w m B gl gx gp kl kx L) (hF : Fl a b c L) (hS : ∀ x ∈ L, IsS x) (hn : L.length = n) (hN : (N : Int) = a * b * c) (hi : i < n) :
    Calls Tryz.prog 61 #[.pointer (some ⟨B, 0, none⟩), .int .i64 i] w fun e' w' => e' = .returned (.agg #[.int .i64 (frc a b c L i).a, .int .i64 (frc a b c L i).b, .int .i64 (frc a b c L i).c]) ∧ w.grownBy w' (some gp) ∧ PR w' gp := by
  have hl3 := hF.n
  obtain ⟨s, hs⟩ : ∃ s, s = i / 3 := ⟨_, rfl⟩
  have h3 : i = 3 * s + i % 3 := by omega
  have hsN : s < N := by omega
  have e1 : (i : Int) / 3 = (s : Int) := by omega
  have hc : i % 3 = 0 ∨ i % 3 = 1 ∨ i % 3 = 2 := by omega
  unfold frc
  rw [e1]
  rcases hc with h | h | h
  · rw [show (i : Int) % 3 + 1 = 1 by omega]
    have := force_d1 a b c n N w m B gl gx gp kl kx L s hC hF hS hn hN hsN
    rwa [show 3 * s + 0 = i by omega] at this
  · rw [show (i : Int) % 3 + 1 = 2 by omega]
    have := force_d2 a b c n N w m B gl gx gp kl kx L s hC hF hS hn hN hsN
    rwa [show 3 * s + 1 = i by omega] at this
  · rw [show (i : Int) % 3 + 1 = 3 by omega]
    have := force_d3 a b c n N w m B gl gx gp kl kx L s hC hF hS hn hN hsN
    rwa [show 3 * s + 2 = i by omega] at this
end Go.Proofs.YtilbhcjnkmeecaaGreat
