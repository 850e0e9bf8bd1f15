/- The trace along a plaquette of a field of small units, as the document's answers reckon it.
Conditions: those written at each theorem. -/
import Derived.Test.YtpfhjdmgkckjfaaGreatDoorARvwC
import Derived.Test.YtpfhjdmgkckjfaaGreatDoorAThrR
import Derived.Test.YtpfhjdmgkckjfaaGreatDoorAHaC
import Derived.Test.YtpfhjdmgkckjfaaGreatDoorAOpenW5
import Derived.Test.YtpfhjdmgkckjfaaGreatDoorATabB
import Derived.Deep.CutRange
namespace Go.Proofs.YtpfhjdmgkckjfaaGreatDoor
set_option linter.unusedVariables false
set_option linter.unusedSimpArgs false
set_option maxRecDepth 1000000
open Go.RowKit
open Um Tm Cm

theorem sm_n5 {x : Q} (h : Sm x) : x.n ≤ 5 := by have := h.facts.2.1; omega
theorem mulS_any (x y : Q) (w : World) (hx : Sm x) (hy : Sm y) : Calls Tryz.prog 62 #[.agg #[.int .i64 x.a, .int .i64 x.b, .int .i64 x.c, .int .i64 x.d, .int .i64 x.n], .agg #[.int .i64 y.a, .int .i64 y.b, .int .i64 y.c, .int .i64 y.d, .int .i64 y.n]] w fun e w' => e = .returned (.agg #[.int .i64 (low (mul x y)).a, .int .i64 (low (mul x y)).b, .int .i64 (low (mul x y)).c, .int .i64 (low (mul x y)).d, .int .i64 (low (mul x y)).n]) ∧ Below w.heap.size w w' := mul4_any x y w hx.v.u hy.v.u (by have := sm_n5 hx; omega) (by have := sm_n5 hy; omega)
theorem barS_any (x : Q) (w : World) (hx : Sm x) : Calls Tryz.prog 71 #[.agg #[.int .i64 x.a, .int .i64 x.b, .int .i64 x.c, .int .i64 x.d, .int .i64 x.n]] w fun e w' => e = .returned (.agg #[.int .i64 (bar x).a, .int .i64 (bar x).b, .int .i64 (bar x).c, .int .i64 (bar x).d, .int .i64 (bar x).n]) ∧ Below w.heap.size w w' := refBar_any x w hx.v (sm_n5 hx)
theorem one_set {w : World} {b : Nat} {x y : Q} (k : LBox w b [x]) : LBox (((((w.setCell ⟨b, 0, none⟩ (.int .i64 y.a)).setCell ⟨b, 1, none⟩ (.int .i64 y.b)).setCell ⟨b, 2, none⟩ (.int .i64 y.c)).setCell ⟨b, 3, none⟩ (.int .i64 y.d)).setCell ⟨b, 4, none⟩ (.int .i64 y.n)) b [y] := k.put 0 (by simp) y
theorem C4.farS {w w1 : World} {b : Nat} {v0 v1 v2 v3 : Value} {row : Option Nat} (k : C4 w b v0 v1 v2 v3) (hg : w.grownBy w1 row) (hne : some b ≠ row) : C4 w1 b v0 v1 v2 v3 :=
  ⟨hg.cell k.c0 hne, hg.cell k.c1 hne, hg.cell k.c2 hne, hg.cell k.c3 hne, fun j => (World.frozen?_of_block (a := ⟨b, j, none⟩) (hg.block b k.lt hne)).trans (k.free j), Nat.lt_of_lt_of_le k.lt hg.size⟩
set_option maxHeartbeats 6400000 in
theorem refTrace_any (a b c p : Int) (bl off cap : Nat) (M : List Q) (x0 x1 x2 x3 : Int) (w : World) (hl : Lies w bl off M)
    (cL : ∀ w : World, Calls Tryz.prog 105 #[.agg #[.int .i64 a, .int .i64 b, .int .i64 c], .int .i64 p] w fun e w' => e = .returned (.agg #[.int .i64 x0, .int .i64 x1, .int .i64 x2, .int .i64 x3]) ∧ Below w.heap.size w w')
    (h0 : 0 ≤ x0 ∧ x0 < (M.length : Int)) (h1 : 0 ≤ x1 ∧ x1 < (M.length : Int)) (h2 : 0 ≤ x2 ∧ x2 < (M.length : Int)) (h3 : 0 ≤ x3 ∧ x3 < (M.length : Int)) (hS : ∀ x ∈ M, Sm x) :
    Calls Tryz.prog 83 #[.agg #[.int .i64 a, .int .i64 b, .int .i64 c, .slice (some ⟨bl, off, none⟩) M.length cap], .int .i64 p] w fun e w' => e = .returned (.int .i64 (tr (pr4 (lk M x0) (lk M x1) (lk M x2) (lk M x3))).1) ∧ Below w.heap.size w w' := by
  have g0 := lk_get (L := M) h0.1 h0.2
  have g1 := lk_get (L := M) h1.1 h1.2
  have g2 := lk_get (L := M) h2.1 h2.2
  have g3 := lk_get (L := M) h3.1 h3.2
  have s0 := hS _ (List.mem_of_getElem? g0)
  have s1 := hS _ (List.mem_of_getElem? g1)
  have s2 := hS _ (List.mem_of_getElem? g2)
  have s3 := hS _ (List.mem_of_getElem? g3)
  have L0 := Lib.hid (hl.atP g0)
  have L1 := Lib.hid (hl.atP g1)
  have L2 := Lib.hid (hl.atP g2)
  have L3 := Lib.hid (hl.atP g3)
  generalize lk M x0 = q0 at *
  generalize lk M x1 = q1 at *
  generalize lk M x2 = q2 at *
  generalize lk M x3 = q3 at *
  have m1 := fun W : World => mulS_any q0 q1 W s0 s1
  have b2 := fun W : World => barS_any q2 W s2
  have m2 := fun W : World => mulS_any (low (mul q0 q1)) (bar q2) W (s0.mul s1) s2.bar
  have b3 := fun W : World => barS_any q3 W s3
  have m3 := fun W : World => mulS_any (low (mul (low (mul q0 q1)) (bar q2))) (bar q3) W ((s0.mul s1).mul s2.bar) s3.bar
  have HF : Hid ((2 * (pr4 q0 q1 q2 q3).a).tdiv (pr4 q0 q1 q2 q3).n = (tr (pr4 q0 q1 q2 q3)).1 ∧ (-1 ≤ (pr4 q0 q1 q2 q3).a ∧ (pr4 q0 q1 q2 q3).a ≤ 1) ∧ (1 ≤ (pr4 q0 q1 q2 q3).n ∧ (pr4 q0 q1 q2 q3).n ≤ 2) ∧ (-2 ≤ (tr (pr4 q0 q1 q2 q3)).1 ∧ (tr (pr4 q0 q1 q2 q3)).1 ≤ 2)) := Lib.hid (by
    have hp := pr4_sm s0 s1 s2 s3
    have f := hp.facts
    have i := hp.ins
    exact ⟨f.2.2.2.2.2.2, i.1, ⟨f.2.2.1, f.2.1⟩, f.2.2.2.2.1, f.2.2.2.2.2.1⟩)
  have HPR : Hid (pr4 q0 q1 q2 q3 = low (mul (low (mul (low (mul q0 q1)) (bar q2))) (bar q3))) := Lib.hid rfl
  obtain ⟨y4, hy4⟩ : ∃ y, y = pr4 q0 q1 q2 q3 := ⟨_, rfl⟩
  rw [← hy4] at HF HPR ⊢
  rw [← HPR.out] at m3
  clear g0 g1 g2 g3 s0 s1 s2 s3 hS hl hy4
  generalize low (mul (low (mul q0 q1)) (bar q2)) = y3 at *
  generalize low (mul q0 q1) = y2 at *
  generalize bar q2 = r2 at *
  generalize bar q3 = r3 at *
  clear HPR
  go_enter Tryz.func83, Tryz.ntmps83
  have f0 : FW (w.alloc (.cells #[.int .i64 a, .int .i64 b, .int .i64 c, .slice (some ⟨bl, off, none⟩) M.length cap] 25)) w.heap.size a b c (.slice (some ⟨bl, off, none⟩) M.length cap) := ⟨by simp [go_sem], by simp [go_sem], by simp [go_sem], by simp [go_sem], fun j => by simp [go_sem], by simp <;> omega⟩
  have F0 := Lib.hid f0
  clear f0
  go_wp2_with (fail)
  refine (cL _).mono ?_
  rintro e w1 ⟨rfl, hw1⟩
  have F1 := Lib.hid ((F0.out.later hw1).later (ba1 (o := .cells #[.int .i64 x0, .int .i64 x1, .int .i64 x2, .int .i64 x3] 130)))
  have X1 : Hid (C4 (w1.alloc (.cells #[.int .i64 x0, .int .i64 x1, .int .i64 x2, .int .i64 x3] 130)) w1.heap.size (.int .i64 x0) (.int .i64 x1) (.int .i64 x2) (.int .i64 x3)) := Lib.hid C4.n1
  have b0 : Below w.heap.size w w1 := bel1 hw1
  have B1 := Lib.hid (b0.trans ((ba1 (o := .cells #[.int .i64 x0, .int .i64 x1, .int .i64 x2, .int .i64 x3] 130)).mono b0.size))
  clear hw1 F0 b0 cL
  go_wp2_with (fail)
  generalize w1.alloc (.cells #[.int .i64 x0, .int .i64 x1, .int .i64 x2, .int .i64 x3] 130) = X at *
  generalize w1.heap.size = xb at *
  obtain ⟨f0, f1, f2, f3, ff, fl⟩ := F1.out
  obtain ⟨c0, c1, c2, c3, cf, cl⟩ := X1.out
  obtain ⟨l0, l1, l2, l3, l4⟩ := L0.out
  obtain ⟨k0, k1, k2, k3, k4⟩ := L1.out
  replace l0 := held_belowG B1.out l0
  replace l1 := held_belowG B1.out l1
  replace l2 := held_belowG B1.out l2
  replace l3 := held_belowG B1.out l3
  replace l4 := held_belowG B1.out l4
  replace k0 := held_belowG B1.out k0
  replace k1 := held_belowG B1.out k1
  replace k2 := held_belowG B1.out k2
  replace k3 := held_belowG B1.out k3
  replace k4 := held_belowG B1.out k4
  have lb := World.block_lt_of_cell? _ _ l0
  obtain ⟨h0a, h0b⟩ := h0
  obtain ⟨h1a, h1b⟩ := h1
  apply Wide.region_one 13 (.cells #[.int .i64 0, .int .i64 0, .int .i64 0, .int .i64 0, .int .i64 0] 73) (some 6) (by kernel_rfl) (by kernel_rfl) (by kernel_rfl) ⟨_, rfl, rfl, fun a W => ⟨rfl, by simp [go_sem]⟩⟩
  · intro B hB
    have kc := @Tail.cell_re
    have hcB := Tail.cells hB
    have zB0 := Nat.lt_of_lt_of_le fl hB.size
    have zB1 := Nat.lt_of_lt_of_le cl hB.size
    have zB2 := Nat.lt_of_lt_of_le lb hB.size
    simp only [List.take_succ_cons, List.take_zero]
    repeat (go_big_quiet_step (first | (with_reducible exact Calls.regrown_of (m1 _))))
    exact wpQuiet_nil rfl
  intro ub W hub hW hx
  simp only [List.drop_succ_cons, List.drop_zero]
  have HNE := Lib.hid (And.intro (show w.heap.size ≠ ub from Nat.ne_of_lt (Nat.lt_of_lt_of_le fl hub)) (And.intro (show xb ≠ ub from Nat.ne_of_lt (Nat.lt_of_lt_of_le cl hub)) (show w.heap.size ≤ ub from Nat.le_of_lt (Nat.lt_of_lt_of_le fl hub))))
  have n0 := Wide.cell_at hx 0 _ rfl
  have n1 := Wide.cell_at hx 1 _ rfl
  have n2 := Wide.cell_at hx 2 _ rfl
  have n3 := Wide.cell_at hx 3 _ rfl
  have n4 := Wide.cell_at hx 4 _ rfl
  have nf := Wide.free_at hx
  have GB := hW.grown (grown_setCells ub [.int .i64 y2.a, .int .i64 y2.b, .int .i64 y2.c, .int .i64 y2.d, .int .i64 y2.n] 0 W) hW.size (fun j e => by cases e; exact hub)
  change Below X.heap.size X (((((W.setCell ⟨ub, 0, none⟩ (.int .i64 y2.a)).setCell ⟨ub, 1, none⟩ (.int .i64 y2.b)).setCell ⟨ub, 2, none⟩ (.int .i64 y2.c)).setCell ⟨ub, 3, none⟩ (.int .i64 y2.d)).setCell ⟨ub, 4, none⟩ (.int .i64 y2.n)) at GB
  have ubl : ub < W.heap.size := (Array.getElem?_eq_some_iff.1 hx).1
  have ubf : ∀ j, W.frozen? ⟨ub, j, none⟩ = false := fun j => by simp [World.frozen?, hx]
  have U2 := Lib.hid (one_set (y := y2) (⟨fun i z hz => by
    match i, hz with
    | 0, hz => simp at hz; subst hz; exact ⟨n0, n1, n2, n3, n4⟩
    | n + 1, hz => simp at hz, ubf, ubl⟩ : LBox W ub [(⟨0, 0, 0, 0, 0⟩ : Q)]))
  have F2 := Lib.hid (F1.out.later GB)
  have X2 := Lib.hid (X1.out.later GB)
  have B2 := Lib.hid (B1.out.trans (GB.mono B1.out.size))
  clear hx hW hub GB F1 X1 B1 f0 f1 f2 f3 ff fl c0 c1 c2 c3 cf cl l0 l1 l2 l3 l4 k0 k1 k2 k3 k4 lb h0a h0b h1a h1b m1 ubl ubf
  go_wp2_with (fail)
  clear n0 n1 n2 n3 n4 nf
  generalize ((((W.setCell ⟨ub, 0, none⟩ (.int .i64 y2.a)).setCell ⟨ub, 1, none⟩ (.int .i64 y2.b)).setCell ⟨ub, 2, none⟩ (.int .i64 y2.c)).setCell ⟨ub, 3, none⟩ (.int .i64 y2.d)).setCell ⟨ub, 4, none⟩ (.int .i64 y2.n) = Y at *
  obtain ⟨f0, f1, f2, f3, ff, fl⟩ := F2.out
  obtain ⟨c0, c1, c2, c3, cf, cl⟩ := X2.out
  obtain ⟨⟨n0, n1, n2, n3, n4⟩, nf, nl⟩ := one_boxI U2.out
  obtain ⟨l0, l1, l2, l3, l4⟩ := L2.out
  replace l0 := held_belowG B2.out l0
  replace l1 := held_belowG B2.out l1
  replace l2 := held_belowG B2.out l2
  replace l3 := held_belowG B2.out l3
  replace l4 := held_belowG B2.out l4
  have lb := World.block_lt_of_cell? _ _ l0
  obtain ⟨ha, hb⟩ := h2
  have kc := @Tail.cell_re
  refine Tail.region_tail_below 9 (by kernel_rfl) (by kernel_rfl) ?_
  simp only [List.take_succ_cons, List.take_zero, List.drop_succ_cons, List.drop_zero]
  repeat (go_big_quiet_step (first | (with_reducible exact Calls.regrown_of (b2 _)) | (with_reducible exact Calls.regrown_of (m2 _))))
  refine wpQuiet_nil ?_
  intro Z2 hZ
  have FZ := Lib.hid (F2.out.later hZ)
  have XZ := Lib.hid (X2.out.later hZ)
  have UZ := Lib.hid (U2.out.later hZ)
  have BZ := Lib.hid (B2.out.trans (hZ.mono B2.out.size))
  clear hZ kc f0 f1 f2 f3 ff fl c0 c1 c2 c3 cf cl n0 n1 n2 n3 n4 nf nl l0 l1 l2 l3 l4 lb ha hb F2 X2 U2 B2 b2 m2
  obtain ⟨⟨n0, n1, n2, n3, n4⟩, nf, nl⟩ := one_boxI UZ.out
  have G := grown_setCells ub [.int .i64 y3.a, .int .i64 y3.b, .int .i64 y3.c, .int .i64 y3.d, .int .i64 y3.n] 0 Z2
  change World.grownBy Z2 (((((Z2.setCell ⟨ub, 0, none⟩ (.int .i64 y3.a)).setCell ⟨ub, 1, none⟩ (.int .i64 y3.b)).setCell ⟨ub, 2, none⟩ (.int .i64 y3.c)).setCell ⟨ub, 3, none⟩ (.int .i64 y3.d)).setCell ⟨ub, 4, none⟩ (.int .i64 y3.n)) (some ub) at G
  have F3 := Lib.hid (FZ.out.grown G (fun e => HNE.out.1 (Option.some.inj e)))
  have X3 := Lib.hid (XZ.out.farS G (fun e => HNE.out.2.1 (Option.some.inj e)))
  have U3 := Lib.hid (one_set (y := y3) UZ.out)
  have B3 := Lib.hid (BZ.out.grown G BZ.out.size (fun j e => by cases e; exact HNE.out.2.2))
  clear G FZ XZ UZ BZ
  go_wp2_with (fail)
  clear n0 n1 n2 n3 n4 nf nl
  generalize ((((Z2.setCell ⟨ub, 0, none⟩ (.int .i64 y3.a)).setCell ⟨ub, 1, none⟩ (.int .i64 y3.b)).setCell ⟨ub, 2, none⟩ (.int .i64 y3.c)).setCell ⟨ub, 3, none⟩ (.int .i64 y3.d)).setCell ⟨ub, 4, none⟩ (.int .i64 y3.n) = Y2 at *
  obtain ⟨f0, f1, f2, f3, ff, fl⟩ := F3.out
  obtain ⟨c0, c1, c2, c3, cf, cl⟩ := X3.out
  obtain ⟨⟨n0, n1, n2, n3, n4⟩, nf, nl⟩ := one_boxI U3.out
  obtain ⟨l0, l1, l2, l3, l4⟩ := L3.out
  replace l0 := held_belowG B3.out l0
  replace l1 := held_belowG B3.out l1
  replace l2 := held_belowG B3.out l2
  replace l3 := held_belowG B3.out l3
  replace l4 := held_belowG B3.out l4
  have lb := World.block_lt_of_cell? _ _ l0
  obtain ⟨ha, hb⟩ := h3
  have kc := @Tail.cell_re
  refine Tail.region_tail_below 9 (by kernel_rfl) (by kernel_rfl) ?_
  simp only [List.take_succ_cons, List.take_zero, List.drop_succ_cons, List.drop_zero]
  repeat (go_big_quiet_step (first | (with_reducible exact Calls.regrown_of (b3 _)) | (with_reducible exact Calls.regrown_of (m3 _))))
  refine wpQuiet_nil ?_
  intro Z3 hZ
  have FZ := Lib.hid (F3.out.later hZ)
  have XZ := Lib.hid (X3.out.later hZ)
  have UZ := Lib.hid (U3.out.later hZ)
  have BZ := Lib.hid (B3.out.trans (hZ.mono B3.out.size))
  clear hZ kc f0 f1 f2 f3 ff fl c0 c1 c2 c3 cf cl n0 n1 n2 n3 n4 nf nl l0 l1 l2 l3 l4 lb ha hb F3 X3 U3 B3 b3 m3
  obtain ⟨⟨n0, n1, n2, n3, n4⟩, nf, nl⟩ := one_boxI UZ.out
  have G := grown_setCells ub [.int .i64 y4.a, .int .i64 y4.b, .int .i64 y4.c, .int .i64 y4.d, .int .i64 y4.n] 0 Z3
  change World.grownBy Z3 (((((Z3.setCell ⟨ub, 0, none⟩ (.int .i64 y4.a)).setCell ⟨ub, 1, none⟩ (.int .i64 y4.b)).setCell ⟨ub, 2, none⟩ (.int .i64 y4.c)).setCell ⟨ub, 3, none⟩ (.int .i64 y4.d)).setCell ⟨ub, 4, none⟩ (.int .i64 y4.n)) (some ub) at G
  have F4 := Lib.hid (FZ.out.grown G (fun e => HNE.out.1 (Option.some.inj e)))
  have X4 := Lib.hid (XZ.out.farS G (fun e => HNE.out.2.1 (Option.some.inj e)))
  have U4 := Lib.hid (one_set (y := y4) UZ.out)
  have B4 := Lib.hid (BZ.out.grown G BZ.out.size (fun j e => by cases e; exact HNE.out.2.2))
  clear G FZ XZ UZ BZ
  go_upto_region 5 with (fail)
  clear n0 n1 n2 n3 n4 nf nl
  generalize ((((Z3.setCell ⟨ub, 0, none⟩ (.int .i64 y4.a)).setCell ⟨ub, 1, none⟩ (.int .i64 y4.b)).setCell ⟨ub, 2, none⟩ (.int .i64 y4.c)).setCell ⟨ub, 3, none⟩ (.int .i64 y4.d)).setCell ⟨ub, 4, none⟩ (.int .i64 y4.n) = Y3 at *
  obtain ⟨⟨n0, n1, n2, n3, n4⟩, nf, nl⟩ := one_boxI U4.out
  obtain ⟨e1, ⟨e2, e3⟩, ⟨e4, e5⟩, e6, e7⟩ := HF.out
  have w1 : IntKind.i64.wrap (2 * y4.a) = 2 * y4.a := IntWalk.i64_in _ (by omega)
  have w2 : ¬ y4.n = 0 := by omega
  have w3 : IntKind.i64.wrap ((2 * y4.a).tdiv y4.n) = (tr y4).1 := by rw [e1]; exact IntWalk.i64_in _ (by omega)
  clear e1 e2 e3 e4 e5 e6 e7
  go_wp2
  go_ret
  exact ⟨rfl, B4.out⟩
end Go.Proofs.YtpfhjdmgkckjfaaGreatDoor
