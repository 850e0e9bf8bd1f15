/- The number of the unit along a plaquette, as a course finds it.
Conditions: those written at each theorem. -/
import Derived.Test.YtilbhcjnkmeecaaKwC
namespace Go.Proofs.Ytilbhcjnkmeecaa
set_option linter.unusedVariables false
set_option linter.unusedSimpArgs false
set_option maxRecDepth 1000000
open Go.RowKit
open Um Tm Cm Km

theorem co_link {a b c : Int} {n N : Nat} {w : World} {m B gl gx gp kl kx : Nat} {L : List Q} (k : CO a b c n N w m B gl gx gp kl kx L) {i : Int} (h0 : 0 ≤ i) (h1 : i < (L.length : Int)) : w.cell? ⟨gl, i.toNat, none⟩ = some (.int .i64 (nm (lk L i))) := by
  refine k.li.at ?_
  rw [List.getElem?_map, lk_get h0 h1]
  rfl
theorem co_next {a b c : Int} {n N : Nat} {w : World} {m B gl gx gp kl kx : Nat} {L : List Q} (k : CO a b c n N w m B gl gx gp kl kx L) {s : Nat} (h1 : s < N) {t : Int} (ht : IsStep t) : w.cell? ⟨gx, s * 7 + (t + 3).toNat, none⟩ = some (.int .i64 (nx a b c s t)) := by
  obtain ⟨t0, t1, t2⟩ := ht
  have := k.nx s h1 (t + 3).toNat (by omega) (by omega)
  rw [show (((t + 3).toNat : Nat) : Int) - 3 = t by omega] at this
  exact this
theorem pr_inv {w : World} {b : Nat} (k : PR w b) {x : Q} (h : IsS x) : w.cell? ⟨b, 120 + (nm x).toNat, none⟩ = some (.int .i64 (nm (bar x))) := by
  obtain ⟨i, hi, e, rfl⟩ := h.nmN
  rw [e]
  exact k.iv i hi
theorem ixA0 (x y z t : Int) : ∀ w, (Instr.index 133 (.agg #[.int .i64 x, .int .i64 y, .int .i64 z, .int .i64 t]) (.int .i64 0)).run Try.prog w = .ok (.int .i64 x) w := fun _ => by kernel_rfl
theorem ixA1 (x y z t : Int) : ∀ w, (Instr.index 133 (.agg #[.int .i64 x, .int .i64 y, .int .i64 z, .int .i64 t]) (.int .i64 1)).run Try.prog w = .ok (.int .i64 y) w := fun _ => by kernel_rfl
theorem ixA2 (x y z t : Int) : ∀ w, (Instr.index 133 (.agg #[.int .i64 x, .int .i64 y, .int .i64 z, .int .i64 t]) (.int .i64 2)).run Try.prog w = .ok (.int .i64 z) w := fun _ => by kernel_rfl
theorem ixA3 (x y z t : Int) : ∀ w, (Instr.index 133 (.agg #[.int .i64 x, .int .i64 y, .int .i64 z, .int .i64 t]) (.int .i64 3)).run Try.prog w = .ok (.int .i64 t) w := fun _ => by kernel_rfl
set_option maxHeartbeats 6400000 in
theorem along_pos (a b c : Int) (n N : Nat) (w : World) (m B gl gx gp kl kx : Nat) (L : List Q) (s : Nat) (d e : Int) (hC : CO a b c n N w m B gl gx gp kl kx L) (hF : Fl a b c L) (hS : ∀ x ∈ L, IsS x) (hn : L.length = n) (hN : (N : Int) = a * b * c) (hs : s < N) (d1 : 1 ≤ d) (d3 : d ≤ 3) (e1 : 1 ≤ e) (e3 : e ≤ 3) :
    Calls Try.prog 91 #[.pointer (some ⟨B, 0, none⟩), .int .i64 s, .agg #[.int .i64 d, .int .i64 (e), .int .i64 (-d), .int .i64 (-e)]] w fun e' w' => e' = .returned (.int .i64 (nm (pl4 a b c L s d (e)))) ∧ w.grownBy w' (some gp) ∧ PR w' gp := by
  have hd : IsStep d := ⟨by omega, by omega, by omega⟩
  have he : IsStep (e) := ⟨by omega, by omega, by omega⟩
  have hf : IsStep (-e) := ⟨by omega, by omega, by omega⟩
  have hl3 := hF.n
  have hn16 : N ≤ 16 := by have := hF.z.p; omega
  obtain ⟨s1, h1⟩ := Int.eq_ofNat_of_zero_le (nx_rng hF.z s d).1
  have hs1 : s1 < N := by have := (nx_rng hF.z s d).2; omega
  obtain ⟨s2, h2⟩ := Int.eq_ofNat_of_zero_le (nx_rng hF.z s1 (e)).1
  have hs2 : s2 < N := by have := (nx_rng hF.z s1 (e)).2; omega
  obtain ⟨s3, h3⟩ := Int.eq_ofNat_of_zero_le (nx_rng hF.z s2 (-d)).1
  have hs3 : s3 < N := by have := (nx_rng hF.z s2 (-d)).2; omega
  obtain ⟨s4, h4⟩ := Int.eq_ofNat_of_zero_le (nx_rng hF.z s3 (-e)).1
  have hs4 : s4 < N := by have := (nx_rng hF.z s3 (-e)).2; omega
  have hal : pl4 a b c L s d (e) = low (mul (low (mul (low (mul (low (mul one (lk L (3 * s + d - 1)))) (lk L (3 * s1 + (e) - 1)))) (bar (lk L (3 * s3 - (-d) - 1))))) (bar (lk L (3 * s4 - (-e) - 1)))) := by
    unfold pl4
    rw [al_four hF (by omega) (by omega) hd he (neg_step hd)]
    simp only [up, h1, h2, h3, h4]
    rw [if_pos (by omega), if_pos (by omega), if_neg (by omega), if_neg (by omega)]
  have A1 : ∀ X, CO a b c n N X m B gl gx gp kl kx L → X.cell? ⟨gx, s * 7 + (d + 3).toNat, none⟩ = some (.int .i64 s1) := fun X h => by rw [co_next h (by omega) hd, h1]
  have B1 : ∀ X, CO a b c n N X m B gl gx gp kl kx L → X.cell? ⟨gl, (3 * (s : Int) + d).toNat - 1, none⟩ = some (.int .i64 (nm (lk L (3 * s + d - 1)))) := fun X h => by rw [show (3 * (s : Int) + d).toNat - 1 = (3 * s + d - 1).toNat by omega]; exact co_link h (by omega) (by omega)
  have S1 : IsS (lk L (3 * s + d - 1)) := lk_S hS (by omega) (by omega)
  have A2 : ∀ X, CO a b c n N X m B gl gx gp kl kx L → X.cell? ⟨gx, s1 * 7 + ((e) + 3).toNat, none⟩ = some (.int .i64 s2) := fun X h => by rw [co_next h (by omega) he, h2]
  have B2 : ∀ X, CO a b c n N X m B gl gx gp kl kx L → X.cell? ⟨gl, (3 * (s1 : Int) + e).toNat - 1, none⟩ = some (.int .i64 (nm (lk L (3 * s1 + (e) - 1)))) := fun X h => by rw [show (3 * (s1 : Int) + e).toNat - 1 = (3 * s1 + (e) - 1).toNat by omega]; exact co_link h (by omega) (by omega)
  have S2 : IsS (lk L (3 * s1 + (e) - 1)) := lk_S hS (by omega) (by omega)
  have A3 : ∀ X, CO a b c n N X m B gl gx gp kl kx L → X.cell? ⟨gx, s2 * 7 + ((-d) + 3).toNat, none⟩ = some (.int .i64 s3) := fun X h => by rw [co_next h (by omega) (neg_step hd), h3]
  have B3 : ∀ X, CO a b c n N X m B gl gx gp kl kx L → X.cell? ⟨gl, (3 * (s3 : Int) + d).toNat - 1, none⟩ = some (.int .i64 (nm (lk L (3 * s3 - (-d) - 1)))) := fun X h => by rw [show (3 * (s3 : Int) + d).toNat - 1 = (3 * s3 - (-d) - 1).toNat by omega]; exact co_link h (by omega) (by omega)
  have S3 : IsS (lk L (3 * s3 - (-d) - 1)) := lk_S hS (by omega) (by omega)
  have A4 : ∀ X, CO a b c n N X m B gl gx gp kl kx L → X.cell? ⟨gx, s3 * 7 + ((-e) + 3).toNat, none⟩ = some (.int .i64 s4) := fun X h => by rw [co_next h (by omega) hf, h4]
  have B4 : ∀ X, CO a b c n N X m B gl gx gp kl kx L → X.cell? ⟨gl, (3 * (s4 : Int) + e).toNat - 1, none⟩ = some (.int .i64 (nm (lk L (3 * s4 - (-e) - 1)))) := fun X h => by rw [show (3 * (s4 : Int) + e).toNat - 1 = (3 * s4 - (-e) - 1).toNat by omega]; exact co_link h (by omega) (by omega)
  have S4 : IsS (lk L (3 * s4 - (-e) - 1)) := lk_S hS (by omega) (by omega)
  rw [hal]
  clear hal h1 h2 h3 h4 hF
  generalize lk L (3 * s + d - 1) = y1 at *
  generalize lk L (3 * s1 + (e) - 1) = y2 at *
  generalize lk L (3 * s3 - (-d) - 1) = y3 at *
  generalize lk L (3 * s4 - (-e) - 1) = y4 at *
  have V3 : ∀ X, CO a b c n N X m B gl gx gp kl kx L → X.cell? ⟨gp, 120 + (nm y3).toNat, none⟩ = some (.int .i64 (nm (bar y3))) := fun X h => pr_inv h.pr S3
  have r3 := S3.nm
  have r3a := r3.1
  have r3b := r3.2.1
  clear r3
  have V4 : ∀ X, CO a b c n N X m B gl gx gp kl kx L → X.cell? ⟨gp, 120 + (nm y4).toNat, none⟩ = some (.int .i64 (nm (bar y4))) := fun X h => pr_inv h.pr S4
  have r4 := S4.nm
  have r4a := r4.1
  have r4b := r4.2.1
  clear r4
  have c1 := fun (W : World) (h : PR W gp) => timesN_any gp one y1 W h IsS.one S1
  rw [nm_one] at c1
  have P1 := IsS.mul IsS.one S1
  generalize low (mul one y1) = p1 at *
  have c2 := fun (W : World) (h : PR W gp) => timesN_any gp p1 y2 W h P1 S2
  have P2 := IsS.mul P1 S2
  generalize low (mul p1 y2) = p2 at *
  have c3 := fun (W : World) (h : PR W gp) => timesN_any gp p2 (bar y3) W h P2 S3.bar
  have P3 := IsS.mul P2 S3.bar
  generalize low (mul p2 (bar y3)) = p3 at *
  have c4 := fun (W : World) (h : PR W gp) => timesN_any gp p3 (bar y4) W h P3 S4.bar
  generalize low (mul p3 (bar y4)) = p4 at *
  have HC0 : ∀ X, w.grownBy X (some gp) → PR X gp → CO a b c n N X m B gl gx gp kl kx L := fun X hg hp => hC.touch hg hp
  have HT := Lib.hid HC0
  have HA1 := Lib.hid A1
  have HB1 := Lib.hid B1
  have HA2 := Lib.hid A2
  have HB2 := Lib.hid B2
  have HA3 := Lib.hid A3
  have HB3 := Lib.hid B3
  have HV3 := Lib.hid V3
  have HA4 := Lib.hid A4
  have HB4 := Lib.hid B4
  have HV4 := Lib.hid V4
  have lB := hC.lb
  have lgl := hC.li.lt
  have lgp := hC.pr.lt
  have lgx := hC.nx.lt (by omega)
  have hp0 := hC.pr
  have hln := hn
  have bN : ∀ j : Nat, j < N → 3 * j + 2 < n := fun j hj => by omega
  have t0 := bN s (by omega)
  have t1 := bN s1 (by omega)
  have t2 := bN s2 (by omega)
  have t3 := bN s3 (by omega)
  have t4 := bN s4 (by omega)
  clear bN
  clear hC hS hN hn hln hl3 HC0 hd he hf A1 A2 A3 A4 B1 B2 B3 B4 V3 V4 S1 S2 S3 S4 P1 P2 P3
  have i0 := ixA0 d (e) (-d) (-e)
  have i1 := ixA1 d (e) (-d) (-e)
  have i2 := ixA2 d (e) (-d) (-e)
  have i3 := ixA3 d (e) (-d) (-e)
  have kc := @Tail.cell_re
  have kc1 : ∀ (W : World) (o : Obj) (d : Nat) (os : Array Obj) (a : Addr), a.block ≤ W.heap.size → (Sort.grow (redrawn (W.alloc o) d) os).cell? a = (W.alloc o).cell? a := fun W o d os a h => Tail.cell_re (W.alloc o) d os a (Nat.lt_of_le_of_lt h (by simp))
  go_enter Try.func91, Try.ntmps91
  go_wp2
  have G0 : w.grownBy (w.alloc (.cells #[.int .i64 d, .int .i64 (e), .int .i64 (-d), .int .i64 (-e)] 133)) (some gp) := grown_ofB (by repeat (first | (with_reducible exact Below.refl _ _) | (with_reducible refine Below.setCell ?_ ?_ _) | (with_reducible refine Below.drew ?_) | (with_reducible refine Below.alloc ?_ ?_ _) | omega | (simp <;> omega)))
  have Q0 : PR (w.alloc (.cells #[.int .i64 d, .int .i64 (e), .int .i64 (-d), .int .i64 (-e)] 133)) gp := hp0.later (by repeat (first | (with_reducible exact Below.refl _ _) | (with_reducible refine Below.setCell ?_ ?_ _) | (with_reducible refine Below.drew ?_) | (with_reducible refine Below.alloc ?_ ?_ _) | omega | (simp <;> omega)))
  have HG0 := Lib.hid G0
  have HQ0 := Lib.hid Q0
  clear G0 Q0 hp0
  generalize w.alloc (.cells #[.int .i64 d, .int .i64 (e), .int .i64 (-d), .int .i64 (-e)] 133) = X0 at *
  refine wp_loop_rounds 5 ?_
  rw [rounds_succ]
  have K1 := HT.out X0 HG0.out HQ0.out
  have cl1 := K1.cl
  have cx1 := K1.cx
  have cp1 := K1.cp
  have a1 := HA1.out X0 K1
  have b1 := HB1.out X0 K1
  have l1 := K1.lb
  have m1 := K1.li.lt
  have o1 := K1.pr.lt
  have q1 := World.block_lt_of_cell? X0 _ a1
  clear K1
  go_wp2
  refine Tail.region_tail_below 16 (by kernel_rfl) (by kernel_rfl) ?_
  simp only [List.take_succ_cons, List.take_zero]
  repeat (go_big_quiet_step (fail))
  refine wpQuiet_nil ?_
  intro Z1 hZ1
  have Y1 := Lib.hid (HQ0.out.later hZ1)
  have U1 := Lib.hid (HG0.out.trans (grown_ofB (row := some gp) hZ1))
  clear cl1 cx1 cp1 a1 b1 l1 m1 o1 q1 hZ1 HG0 HQ0
  go_wp2_with ((with_reducible refine (c1 _ Y1.out).mono ?_); clear c1; rintro e' X1 ⟨rfl, hg1, hq1⟩; have HG1 := Lib.hid (U1.out.trans hg1); have HQ1 := Lib.hid hq1; clear hg1 hq1)
  rw [rounds_succ]
  have K2 := HT.out X1 HG1.out HQ1.out
  have cl2 := K2.cl
  have cx2 := K2.cx
  have cp2 := K2.cp
  have a2 := HA2.out X1 K2
  have b2 := HB2.out X1 K2
  have l2 := K2.lb
  have m2 := K2.li.lt
  have o2 := K2.pr.lt
  have q2 := World.block_lt_of_cell? X1 _ a2
  clear K2
  go_wp2
  refine Tail.region_tail_below 16 (by kernel_rfl) (by kernel_rfl) ?_
  simp only [List.take_succ_cons, List.take_zero]
  repeat (go_big_quiet_step (fail))
  refine wpQuiet_nil ?_
  intro Z2 hZ2
  have Y2 := Lib.hid (HQ1.out.later hZ2)
  have U2 := Lib.hid (HG1.out.trans (grown_ofB (row := some gp) hZ2))
  clear cl2 cx2 cp2 a2 b2 l2 m2 o2 q2 hZ2 HG1 HQ1
  go_wp2_with ((with_reducible refine (c2 _ Y2.out).mono ?_); clear c2; rintro e' X2 ⟨rfl, hg2, hq2⟩; have HG2 := Lib.hid (U2.out.trans hg2); have HQ2 := Lib.hid hq2; clear hg2 hq2)
  rw [rounds_succ]
  have K3 := HT.out X2 HG2.out HQ2.out
  have cl3 := K3.cl
  have cx3 := K3.cx
  have cp3 := K3.cp
  have a3 := HA3.out X2 K3
  have b3 := HB3.out X2 K3
  have v3 := HV3.out X2 K3
  have l3 := K3.lb
  have m3 := K3.li.lt
  have o3 := K3.pr.lt
  have q3 := World.block_lt_of_cell? X2 _ a3
  clear K3
  go_wp2
  refine Tail.region_tail_below 24 (by kernel_rfl) (by kernel_rfl) ?_
  simp only [List.take_succ_cons, List.take_zero]
  repeat (go_big_quiet_step (fail))
  refine wpQuiet_nil ?_
  intro Z3 hZ3
  have Y3 := Lib.hid (HQ2.out.later hZ3)
  have U3 := Lib.hid (HG2.out.trans (grown_ofB (row := some gp) hZ3))
  clear cl3 cx3 cp3 a3 b3 v3 l3 m3 o3 q3 hZ3 HG2 HQ2
  go_wp2_with ((with_reducible refine (c3 _ Y3.out).mono ?_); clear c3; rintro e' X3 ⟨rfl, hg3, hq3⟩; have HG3 := Lib.hid (U3.out.trans hg3); have HQ3 := Lib.hid hq3; clear hg3 hq3)
  rw [rounds_succ]
  have K4 := HT.out X3 HG3.out HQ3.out
  have cl4 := K4.cl
  have cx4 := K4.cx
  have cp4 := K4.cp
  have a4 := HA4.out X3 K4
  have b4 := HB4.out X3 K4
  have v4 := HV4.out X3 K4
  have l4 := K4.lb
  have m4 := K4.li.lt
  have o4 := K4.pr.lt
  have q4 := World.block_lt_of_cell? X3 _ a4
  clear K4
  go_wp2
  refine Tail.region_tail_below 24 (by kernel_rfl) (by kernel_rfl) ?_
  simp only [List.take_succ_cons, List.take_zero]
  repeat (go_big_quiet_step (fail))
  refine wpQuiet_nil ?_
  intro Z4 hZ4
  have Y4 := Lib.hid (HQ3.out.later hZ4)
  have U4 := Lib.hid (HG3.out.trans (grown_ofB (row := some gp) hZ4))
  clear cl4 cx4 cp4 a4 b4 v4 l4 m4 o4 q4 hZ4 HG3 HQ3
  go_wp2_with ((with_reducible refine (c4 _ Y4.out).mono ?_); clear c4; rintro e' X4 ⟨rfl, hg4, hq4⟩; have HG4 := Lib.hid (U4.out.trans hg4); have HQ4 := Lib.hid hq4; clear hg4 hq4)
  rw [rounds_succ]
  go_wp2
  go_ret
  exact ⟨rfl, HG4.out, HQ4.out⟩
set_option maxHeartbeats 6400000 in
theorem along_neg (a b c : Int) (n N : Nat) (w : World) (m B gl gx gp kl kx : Nat) (L : List Q) (s : Nat) (d e : Int) (hC : CO a b c n N w m B gl gx gp kl kx L) (hF : Fl a b c L) (hS : ∀ x ∈ L, IsS x) (hn : L.length = n) (hN : (N : Int) = a * b * c) (hs : s < N) (d1 : 1 ≤ d) (d3 : d ≤ 3) (e1 : 1 ≤ e) (e3 : e ≤ 3) :
    Calls Try.prog 91 #[.pointer (some ⟨B, 0, none⟩), .int .i64 s, .agg #[.int .i64 d, .int .i64 (-e), .int .i64 (-d), .int .i64 (e)]] w fun e' w' => e' = .returned (.int .i64 (nm (pl4 a b c L s d (-e)))) ∧ w.grownBy w' (some gp) ∧ PR w' gp := by
  have hd : IsStep d := ⟨by omega, by omega, by omega⟩
  have he : IsStep (-e) := ⟨by omega, by omega, by omega⟩
  have hf : IsStep (e) := ⟨by omega, by omega, by omega⟩
  have hl3 := hF.n
  have hn16 : N ≤ 16 := by have := hF.z.p; omega
  obtain ⟨s1, h1⟩ := Int.eq_ofNat_of_zero_le (nx_rng hF.z s d).1
  have hs1 : s1 < N := by have := (nx_rng hF.z s d).2; omega
  obtain ⟨s2, h2⟩ := Int.eq_ofNat_of_zero_le (nx_rng hF.z s1 (-e)).1
  have hs2 : s2 < N := by have := (nx_rng hF.z s1 (-e)).2; omega
  obtain ⟨s3, h3⟩ := Int.eq_ofNat_of_zero_le (nx_rng hF.z s2 (-d)).1
  have hs3 : s3 < N := by have := (nx_rng hF.z s2 (-d)).2; omega
  obtain ⟨s4, h4⟩ := Int.eq_ofNat_of_zero_le (nx_rng hF.z s3 (e)).1
  have hs4 : s4 < N := by have := (nx_rng hF.z s3 (e)).2; omega
  have hal : pl4 a b c L s d (-e) = low (mul (low (mul (low (mul (low (mul one (lk L (3 * s + d - 1)))) (bar (lk L (3 * s2 - (-e) - 1))))) (bar (lk L (3 * s3 - (-d) - 1))))) (lk L (3 * s3 + (e) - 1))) := by
    unfold pl4
    rw [show -(-e) = e by omega]
    rw [al_four hF (by omega) (by omega) hd he (neg_step hd)]
    simp only [up, h1, h2, h3, h4]
    rw [if_pos (by omega), if_neg (by omega), if_neg (by omega), if_pos (by omega)]
  have A1 : ∀ X, CO a b c n N X m B gl gx gp kl kx L → X.cell? ⟨gx, s * 7 + (d + 3).toNat, none⟩ = some (.int .i64 s1) := fun X h => by rw [co_next h (by omega) hd, h1]
  have B1 : ∀ X, CO a b c n N X m B gl gx gp kl kx L → X.cell? ⟨gl, (3 * (s : Int) + d).toNat - 1, none⟩ = some (.int .i64 (nm (lk L (3 * s + d - 1)))) := fun X h => by rw [show (3 * (s : Int) + d).toNat - 1 = (3 * s + d - 1).toNat by omega]; exact co_link h (by omega) (by omega)
  have S1 : IsS (lk L (3 * s + d - 1)) := lk_S hS (by omega) (by omega)
  have A2 : ∀ X, CO a b c n N X m B gl gx gp kl kx L → X.cell? ⟨gx, s1 * 7 + ((-e) + 3).toNat, none⟩ = some (.int .i64 s2) := fun X h => by rw [co_next h (by omega) he, h2]
  have B2 : ∀ X, CO a b c n N X m B gl gx gp kl kx L → X.cell? ⟨gl, (3 * (s2 : Int) + e).toNat - 1, none⟩ = some (.int .i64 (nm (lk L (3 * s2 - (-e) - 1)))) := fun X h => by rw [show (3 * (s2 : Int) + e).toNat - 1 = (3 * s2 - (-e) - 1).toNat by omega]; exact co_link h (by omega) (by omega)
  have S2 : IsS (lk L (3 * s2 - (-e) - 1)) := lk_S hS (by omega) (by omega)
  have A3 : ∀ X, CO a b c n N X m B gl gx gp kl kx L → X.cell? ⟨gx, s2 * 7 + ((-d) + 3).toNat, none⟩ = some (.int .i64 s3) := fun X h => by rw [co_next h (by omega) (neg_step hd), h3]
  have B3 : ∀ X, CO a b c n N X m B gl gx gp kl kx L → X.cell? ⟨gl, (3 * (s3 : Int) + d).toNat - 1, none⟩ = some (.int .i64 (nm (lk L (3 * s3 - (-d) - 1)))) := fun X h => by rw [show (3 * (s3 : Int) + d).toNat - 1 = (3 * s3 - (-d) - 1).toNat by omega]; exact co_link h (by omega) (by omega)
  have S3 : IsS (lk L (3 * s3 - (-d) - 1)) := lk_S hS (by omega) (by omega)
  have A4 : ∀ X, CO a b c n N X m B gl gx gp kl kx L → X.cell? ⟨gx, s3 * 7 + ((e) + 3).toNat, none⟩ = some (.int .i64 s4) := fun X h => by rw [co_next h (by omega) hf, h4]
  have B4 : ∀ X, CO a b c n N X m B gl gx gp kl kx L → X.cell? ⟨gl, (3 * (s3 : Int) + e).toNat - 1, none⟩ = some (.int .i64 (nm (lk L (3 * s3 + (e) - 1)))) := fun X h => by rw [show (3 * (s3 : Int) + e).toNat - 1 = (3 * s3 + (e) - 1).toNat by omega]; exact co_link h (by omega) (by omega)
  have S4 : IsS (lk L (3 * s3 + (e) - 1)) := lk_S hS (by omega) (by omega)
  rw [hal]
  clear hal h1 h2 h3 h4 hF
  generalize lk L (3 * s + d - 1) = y1 at *
  generalize lk L (3 * s2 - (-e) - 1) = y2 at *
  generalize lk L (3 * s3 - (-d) - 1) = y3 at *
  generalize lk L (3 * s3 + (e) - 1) = y4 at *
  have V2 : ∀ X, CO a b c n N X m B gl gx gp kl kx L → X.cell? ⟨gp, 120 + (nm y2).toNat, none⟩ = some (.int .i64 (nm (bar y2))) := fun X h => pr_inv h.pr S2
  have r2 := S2.nm
  have r2a := r2.1
  have r2b := r2.2.1
  clear r2
  have V3 : ∀ X, CO a b c n N X m B gl gx gp kl kx L → X.cell? ⟨gp, 120 + (nm y3).toNat, none⟩ = some (.int .i64 (nm (bar y3))) := fun X h => pr_inv h.pr S3
  have r3 := S3.nm
  have r3a := r3.1
  have r3b := r3.2.1
  clear r3
  have c1 := fun (W : World) (h : PR W gp) => timesN_any gp one y1 W h IsS.one S1
  rw [nm_one] at c1
  have P1 := IsS.mul IsS.one S1
  generalize low (mul one y1) = p1 at *
  have c2 := fun (W : World) (h : PR W gp) => timesN_any gp p1 (bar y2) W h P1 S2.bar
  have P2 := IsS.mul P1 S2.bar
  generalize low (mul p1 (bar y2)) = p2 at *
  have c3 := fun (W : World) (h : PR W gp) => timesN_any gp p2 (bar y3) W h P2 S3.bar
  have P3 := IsS.mul P2 S3.bar
  generalize low (mul p2 (bar y3)) = p3 at *
  have c4 := fun (W : World) (h : PR W gp) => timesN_any gp p3 y4 W h P3 S4
  generalize low (mul p3 y4) = p4 at *
  have HC0 : ∀ X, w.grownBy X (some gp) → PR X gp → CO a b c n N X m B gl gx gp kl kx L := fun X hg hp => hC.touch hg hp
  have HT := Lib.hid HC0
  have HA1 := Lib.hid A1
  have HB1 := Lib.hid B1
  have HA2 := Lib.hid A2
  have HB2 := Lib.hid B2
  have HV2 := Lib.hid V2
  have HA3 := Lib.hid A3
  have HB3 := Lib.hid B3
  have HV3 := Lib.hid V3
  have HA4 := Lib.hid A4
  have HB4 := Lib.hid B4
  have lB := hC.lb
  have lgl := hC.li.lt
  have lgp := hC.pr.lt
  have lgx := hC.nx.lt (by omega)
  have hp0 := hC.pr
  have hln := hn
  have bN : ∀ j : Nat, j < N → 3 * j + 2 < n := fun j hj => by omega
  have t0 := bN s (by omega)
  have t1 := bN s1 (by omega)
  have t2 := bN s2 (by omega)
  have t3 := bN s3 (by omega)
  have t4 := bN s4 (by omega)
  clear bN
  clear hC hS hN hn hln hl3 HC0 hd he hf A1 A2 A3 A4 B1 B2 B3 B4 V2 V3 S1 S2 S3 S4 P1 P2 P3
  have i0 := ixA0 d (-e) (-d) (e)
  have i1 := ixA1 d (-e) (-d) (e)
  have i2 := ixA2 d (-e) (-d) (e)
  have i3 := ixA3 d (-e) (-d) (e)
  have kc := @Tail.cell_re
  have kc1 : ∀ (W : World) (o : Obj) (d : Nat) (os : Array Obj) (a : Addr), a.block ≤ W.heap.size → (Sort.grow (redrawn (W.alloc o) d) os).cell? a = (W.alloc o).cell? a := fun W o d os a h => Tail.cell_re (W.alloc o) d os a (Nat.lt_of_le_of_lt h (by simp))
  go_enter Try.func91, Try.ntmps91
  go_wp2
  have G0 : w.grownBy (w.alloc (.cells #[.int .i64 d, .int .i64 (-e), .int .i64 (-d), .int .i64 (e)] 133)) (some gp) := grown_ofB (by repeat (first | (with_reducible exact Below.refl _ _) | (with_reducible refine Below.setCell ?_ ?_ _) | (with_reducible refine Below.drew ?_) | (with_reducible refine Below.alloc ?_ ?_ _) | omega | (simp <;> omega)))
  have Q0 : PR (w.alloc (.cells #[.int .i64 d, .int .i64 (-e), .int .i64 (-d), .int .i64 (e)] 133)) gp := hp0.later (by repeat (first | (with_reducible exact Below.refl _ _) | (with_reducible refine Below.setCell ?_ ?_ _) | (with_reducible refine Below.drew ?_) | (with_reducible refine Below.alloc ?_ ?_ _) | omega | (simp <;> omega)))
  have HG0 := Lib.hid G0
  have HQ0 := Lib.hid Q0
  clear G0 Q0 hp0
  generalize w.alloc (.cells #[.int .i64 d, .int .i64 (-e), .int .i64 (-d), .int .i64 (e)] 133) = X0 at *
  refine wp_loop_rounds 5 ?_
  rw [rounds_succ]
  have K1 := HT.out X0 HG0.out HQ0.out
  have cl1 := K1.cl
  have cx1 := K1.cx
  have cp1 := K1.cp
  have a1 := HA1.out X0 K1
  have b1 := HB1.out X0 K1
  have l1 := K1.lb
  have m1 := K1.li.lt
  have o1 := K1.pr.lt
  have q1 := World.block_lt_of_cell? X0 _ a1
  clear K1
  go_wp2
  refine Tail.region_tail_below 16 (by kernel_rfl) (by kernel_rfl) ?_
  simp only [List.take_succ_cons, List.take_zero]
  repeat (go_big_quiet_step (fail))
  refine wpQuiet_nil ?_
  intro Z1 hZ1
  have Y1 := Lib.hid (HQ0.out.later hZ1)
  have U1 := Lib.hid (HG0.out.trans (grown_ofB (row := some gp) hZ1))
  clear cl1 cx1 cp1 a1 b1 l1 m1 o1 q1 hZ1 HG0 HQ0
  go_wp2_with ((with_reducible refine (c1 _ Y1.out).mono ?_); clear c1; rintro e' X1 ⟨rfl, hg1, hq1⟩; have HG1 := Lib.hid (U1.out.trans hg1); have HQ1 := Lib.hid hq1; clear hg1 hq1)
  rw [rounds_succ]
  have K2 := HT.out X1 HG1.out HQ1.out
  have cl2 := K2.cl
  have cx2 := K2.cx
  have cp2 := K2.cp
  have a2 := HA2.out X1 K2
  have b2 := HB2.out X1 K2
  have v2 := HV2.out X1 K2
  have l2 := K2.lb
  have m2 := K2.li.lt
  have o2 := K2.pr.lt
  have q2 := World.block_lt_of_cell? X1 _ a2
  clear K2
  go_wp2
  refine Tail.region_tail_below 24 (by kernel_rfl) (by kernel_rfl) ?_
  simp only [List.take_succ_cons, List.take_zero]
  repeat (go_big_quiet_step (fail))
  refine wpQuiet_nil ?_
  intro Z2 hZ2
  have Y2 := Lib.hid (HQ1.out.later hZ2)
  have U2 := Lib.hid (HG1.out.trans (grown_ofB (row := some gp) hZ2))
  clear cl2 cx2 cp2 a2 b2 v2 l2 m2 o2 q2 hZ2 HG1 HQ1
  go_wp2_with ((with_reducible refine (c2 _ Y2.out).mono ?_); clear c2; rintro e' X2 ⟨rfl, hg2, hq2⟩; have HG2 := Lib.hid (U2.out.trans hg2); have HQ2 := Lib.hid hq2; clear hg2 hq2)
  rw [rounds_succ]
  have K3 := HT.out X2 HG2.out HQ2.out
  have cl3 := K3.cl
  have cx3 := K3.cx
  have cp3 := K3.cp
  have a3 := HA3.out X2 K3
  have b3 := HB3.out X2 K3
  have v3 := HV3.out X2 K3
  have l3 := K3.lb
  have m3 := K3.li.lt
  have o3 := K3.pr.lt
  have q3 := World.block_lt_of_cell? X2 _ a3
  clear K3
  go_wp2
  refine Tail.region_tail_below 24 (by kernel_rfl) (by kernel_rfl) ?_
  simp only [List.take_succ_cons, List.take_zero]
  repeat (go_big_quiet_step (fail))
  refine wpQuiet_nil ?_
  intro Z3 hZ3
  have Y3 := Lib.hid (HQ2.out.later hZ3)
  have U3 := Lib.hid (HG2.out.trans (grown_ofB (row := some gp) hZ3))
  clear cl3 cx3 cp3 a3 b3 v3 l3 m3 o3 q3 hZ3 HG2 HQ2
  go_wp2_with ((with_reducible refine (c3 _ Y3.out).mono ?_); clear c3; rintro e' X3 ⟨rfl, hg3, hq3⟩; have HG3 := Lib.hid (U3.out.trans hg3); have HQ3 := Lib.hid hq3; clear hg3 hq3)
  rw [rounds_succ]
  have K4 := HT.out X3 HG3.out HQ3.out
  have cl4 := K4.cl
  have cx4 := K4.cx
  have cp4 := K4.cp
  have a4 := HA4.out X3 K4
  have b4 := HB4.out X3 K4
  have l4 := K4.lb
  have m4 := K4.li.lt
  have o4 := K4.pr.lt
  have q4 := World.block_lt_of_cell? X3 _ a4
  clear K4
  go_wp2
  refine Tail.region_tail_below 16 (by kernel_rfl) (by kernel_rfl) ?_
  simp only [List.take_succ_cons, List.take_zero]
  repeat (go_big_quiet_step (fail))
  refine wpQuiet_nil ?_
  intro Z4 hZ4
  have Y4 := Lib.hid (HQ3.out.later hZ4)
  have U4 := Lib.hid (HG3.out.trans (grown_ofB (row := some gp) hZ4))
  clear cl4 cx4 cp4 a4 b4 l4 m4 o4 q4 hZ4 HG3 HQ3
  go_wp2_with ((with_reducible refine (c4 _ Y4.out).mono ?_); clear c4; rintro e' X4 ⟨rfl, hg4, hq4⟩; have HG4 := Lib.hid (U4.out.trans hg4); have HQ4 := Lib.hid hq4; clear hg4 hq4)
  rw [rounds_succ]
  go_wp2
  go_ret
  exact ⟨rfl, HG4.out, HQ4.out⟩
end Go.Proofs.Ytilbhcjnkmeecaa
