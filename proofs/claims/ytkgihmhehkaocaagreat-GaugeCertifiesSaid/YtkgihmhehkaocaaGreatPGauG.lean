/- Which quaternions are certificates, as the document's answers find it.
Conditions: those written at each theorem. -/
import Derived.Test.YtkgihmhehkaocaaGreatPGauF
import Derived.Test.YtkgihmhehkaocaaGreatPGauE
import Derived.Test.YtkgihmhehkaocaaGreatPSame4
namespace Go.Proofs.YtkgihmhehkaocaaGreat
set_option linter.unusedVariables false
set_option linter.unusedSimpArgs false
set_option maxRecDepth 1000000
open Go.RowKit
open Um Tm

theorem small2_q {q u : Q} (hq : B4 q 1000) (hn : 0 ≤ q.n ∧ q.n ≤ 1000) (hu : Sm2 u) : Small2 q u ∧ Small2 u q := by
  obtain ⟨p1, p2, p3, p4, p5, p6, p7, p8⟩ := part_le u hu.1.u
  have h2 := hu.2
  have hp := hu.1.u.pos
  obtain ⟨qa, qb, qc, qd⟩ := hq
  have hx : ∀ p : Int, (p = q.a ∨ p = q.b ∨ p = q.c ∨ p = q.d ∨ p = q.n) → -1000 ≤ p ∧ p ≤ 1000 := fun p hp => by
    rcases hp with rfl | rfl | rfl | rfl | rfl <;> omega
  have hy : ∀ p : Int, (p = u.a ∨ p = u.b ∨ p = u.c ∨ p = u.d ∨ p = u.n) → -2 ≤ p ∧ p ≤ 2 := fun p hp => by
    rcases hp with rfl | rfl | rfl | rfl | rfl <;> omega
  exact ⟨Small2.of (by decide) (by decide) hx hy, Small2.of (by decide) (by decide) hy hx⟩
theorem mul_q {q u : Q} (hq : B4 q 1000) (hu : Sm2 u) : B4 (mul q u) 8000 ∧ B4 (mul u q) 8000 := by
  obtain ⟨p1, p2, p3, p4, p5, p6, p7, p8⟩ := part_le u hu.1.u
  have h2 := hu.2
  have k : ∀ p r : Int, -1000 ≤ p ∧ p ≤ 1000 → -2 ≤ r ∧ r ≤ 2 → -2000 ≤ p * r ∧ p * r ≤ 2000 := fun p r h1 h2 => mul_le2 (X := 1000) (Y := 2) (by decide) h1 h2
  have ua : -2 ≤ u.a ∧ u.a ≤ 2 := by omega
  have ub : -2 ≤ u.b ∧ u.b ≤ 2 := by omega
  have uc : -2 ≤ u.c ∧ u.c ≤ 2 := by omega
  have ud : -2 ≤ u.d ∧ u.d ≤ 2 := by omega
  obtain ⟨qa, qb, qc, qd⟩ := hq
  have aa := k _ _ qa ua; have ab := k _ _ qa ub; have ac := k _ _ qa uc; have ad := k _ _ qa ud
  have ba := k _ _ qb ua; have bb := k _ _ qb ub; have bc := k _ _ qb uc; have bd := k _ _ qb ud
  have ca := k _ _ qc ua; have cb := k _ _ qc ub; have cc := k _ _ qc uc; have cd := k _ _ qc ud
  have da := k _ _ qd ua; have db := k _ _ qd ub; have dc := k _ _ qd uc; have dd := k _ _ qd ud
  refine ⟨⟨?_, ?_, ?_, ?_⟩, ⟨?_, ?_, ?_, ?_⟩⟩
  · simp only [mul]; omega
  · simp only [mul]; omega
  · simp only [mul]; omega
  · simp only [mul]; omega
  · simp only [mul, Int.mul_comm u.a, Int.mul_comm u.b, Int.mul_comm u.c, Int.mul_comm u.d]; omega
  · simp only [mul, Int.mul_comm u.a, Int.mul_comm u.b, Int.mul_comm u.c, Int.mul_comm u.d]; omega
  · simp only [mul, Int.mul_comm u.a, Int.mul_comm u.b, Int.mul_comm u.c, Int.mul_comm u.d]; omega
  · simp only [mul, Int.mul_comm u.a, Int.mul_comm u.b, Int.mul_comm u.c, Int.mul_comm u.d]; omega
theorem turnsP_four (q u v : Q) : turnsP q u v ↔ ((mul q u).a * v.n = (mul v q).a * u.n ∧ (mul q u).b * v.n = (mul v q).b * u.n ∧ (mul q u).c * v.n = (mul v q).c * u.n ∧ (mul q u).d * v.n = (mul v q).d * u.n) := by
  constructor
  · intro h
    exact ⟨h 0 (by omega), h 1 (by omega), h 2 (by omega), h 3 (by omega)⟩
  · rintro ⟨h0, h1, h2, h3⟩ k hk
    rcases cases4 hk with rfl | rfl | rfl | rfl
    · exact h0
    · exact h1
    · exact h2
    · exact h3
set_option maxHeartbeats 6400000 in
theorem turns_any (q u v : Q) (d : Bool) (w : World) (hq : B4 q 1000) (hu : Sm2 u) (hv : Sm2 v) (hd : (turnsP q u v → d = true) ∧ (¬ turnsP q u v → d = false)) : Calls Tryz.prog 30 #[.agg #[.int .i64 q.a, .int .i64 q.b, .int .i64 q.c, .int .i64 q.d], .agg #[.int .i64 u.a, .int .i64 u.b, .int .i64 u.c, .int .i64 u.d, .int .i64 u.n], .agg #[.int .i64 v.a, .int .i64 v.b, .int .i64 v.c, .int .i64 v.d, .int .i64 v.n]] w fun e w' => e = .returned (.bool d) ∧ Below w.heap.size w w' := by
  have hq1 : B4 (⟨q.a, q.b, q.c, q.d, 1⟩ : Q) 1000 := ⟨hq.a, hq.b, hq.c, hq.d⟩
  have c1 := fun W : World => raw4_any (⟨q.a, q.b, q.c, q.d, 1⟩ : Q) u W (small2_q hq1 ⟨show (0 : Int) ≤ 1 by decide, show (1 : Int) ≤ 1000 by decide⟩ hu).1
  have c2 := fun W : World => raw4_any v (⟨q.a, q.b, q.c, q.d, 1⟩ : Q) W (small2_q hq1 ⟨show (0 : Int) ≤ 1 by decide, show (1 : Int) ≤ 1000 by decide⟩ hv).2
  obtain ⟨⟨xa, xb, xc, xd⟩, -⟩ := mul_q hq1 hu
  obtain ⟨-, ⟨ya, yb, yc, yd⟩⟩ := mul_q hq1 hv
  have hun := sm2_n hu
  have hvn := sm2_n hv
  have hd2 : (((mul ⟨q.a, q.b, q.c, q.d, 1⟩ u).a * (mul v ⟨q.a, q.b, q.c, q.d, 1⟩).n = (mul v ⟨q.a, q.b, q.c, q.d, 1⟩).a * (mul ⟨q.a, q.b, q.c, q.d, 1⟩ u).n ∧ (mul ⟨q.a, q.b, q.c, q.d, 1⟩ u).b * (mul v ⟨q.a, q.b, q.c, q.d, 1⟩).n = (mul v ⟨q.a, q.b, q.c, q.d, 1⟩).b * (mul ⟨q.a, q.b, q.c, q.d, 1⟩ u).n ∧ (mul ⟨q.a, q.b, q.c, q.d, 1⟩ u).c * (mul v ⟨q.a, q.b, q.c, q.d, 1⟩).n = (mul v ⟨q.a, q.b, q.c, q.d, 1⟩).c * (mul ⟨q.a, q.b, q.c, q.d, 1⟩ u).n ∧ (mul ⟨q.a, q.b, q.c, q.d, 1⟩ u).d * (mul v ⟨q.a, q.b, q.c, q.d, 1⟩).n = (mul v ⟨q.a, q.b, q.c, q.d, 1⟩).d * (mul ⟨q.a, q.b, q.c, q.d, 1⟩ u).n) → d = true) ∧ (¬ ((mul ⟨q.a, q.b, q.c, q.d, 1⟩ u).a * (mul v ⟨q.a, q.b, q.c, q.d, 1⟩).n = (mul v ⟨q.a, q.b, q.c, q.d, 1⟩).a * (mul ⟨q.a, q.b, q.c, q.d, 1⟩ u).n ∧ (mul ⟨q.a, q.b, q.c, q.d, 1⟩ u).b * (mul v ⟨q.a, q.b, q.c, q.d, 1⟩).n = (mul v ⟨q.a, q.b, q.c, q.d, 1⟩).b * (mul ⟨q.a, q.b, q.c, q.d, 1⟩ u).n ∧ (mul ⟨q.a, q.b, q.c, q.d, 1⟩ u).c * (mul v ⟨q.a, q.b, q.c, q.d, 1⟩).n = (mul v ⟨q.a, q.b, q.c, q.d, 1⟩).c * (mul ⟨q.a, q.b, q.c, q.d, 1⟩ u).n ∧ (mul ⟨q.a, q.b, q.c, q.d, 1⟩ u).d * (mul v ⟨q.a, q.b, q.c, q.d, 1⟩).n = (mul v ⟨q.a, q.b, q.c, q.d, 1⟩).d * (mul ⟨q.a, q.b, q.c, q.d, 1⟩ u).n) → d = false) := by
    rw [turnsP_four] at hd
    have e1 : (mul ⟨q.a, q.b, q.c, q.d, 1⟩ u).n = u.n := by simp [mul]
    have e2 : (mul v ⟨q.a, q.b, q.c, q.d, 1⟩).n = v.n := by simp [mul]
    rw [e1, e2]
    exact hd
  have hxn : 0 ≤ (mul ⟨q.a, q.b, q.c, q.d, 1⟩ u).n ∧ (mul ⟨q.a, q.b, q.c, q.d, 1⟩ u).n ≤ 2 := by simp only [mul]; omega
  have hyn : 0 ≤ (mul v ⟨q.a, q.b, q.c, q.d, 1⟩).n ∧ (mul v ⟨q.a, q.b, q.c, q.d, 1⟩).n ≤ 2 := by simp only [mul]; omega
  have HD := Lib.hid hd2
  clear hd hd2 hq hq1 hu hv hun hvn
  generalize mul ⟨q.a, q.b, q.c, q.d, 1⟩ u = x at *
  generalize mul v ⟨q.a, q.b, q.c, q.d, 1⟩ = y at *
  obtain ⟨xa1, xa2⟩ := mul_le2 (X := 8000) (Y := 2) (by decide) xa ⟨by omega, hyn.2⟩
  obtain ⟨xb1, xb2⟩ := mul_le2 (X := 8000) (Y := 2) (by decide) xb ⟨by omega, hyn.2⟩
  obtain ⟨xc1, xc2⟩ := mul_le2 (X := 8000) (Y := 2) (by decide) xc ⟨by omega, hyn.2⟩
  obtain ⟨xd1, xd2⟩ := mul_le2 (X := 8000) (Y := 2) (by decide) xd ⟨by omega, hyn.2⟩
  obtain ⟨ya1, ya2⟩ := mul_le2 (X := 8000) (Y := 2) (by decide) ya ⟨by omega, hxn.2⟩
  obtain ⟨yb1, yb2⟩ := mul_le2 (X := 8000) (Y := 2) (by decide) yb ⟨by omega, hxn.2⟩
  obtain ⟨yc1, yc2⟩ := mul_le2 (X := 8000) (Y := 2) (by decide) yc ⟨by omega, hxn.2⟩
  obtain ⟨yd1, yd2⟩ := mul_le2 (X := 8000) (Y := 2) (by decide) yd ⟨by omega, hxn.2⟩
  clear xa xb xc xd ya yb yc yd hxn hyn
  go_enter Tryz.func30, Tryz.ntmps30
  go_wp2_with (fail)
  have P3 : LBox ((((w.alloc (.cells #[.int .i64 q.a, .int .i64 q.b, .int .i64 q.c, .int .i64 q.d] 31)).alloc (.cells #[.int .i64 u.a, .int .i64 u.b, .int .i64 u.c, .int .i64 u.d, .int .i64 u.n] 55)).alloc (.cells #[.int .i64 v.a, .int .i64 v.b, .int .i64 v.c, .int .i64 v.d, .int .i64 v.n] 55)).alloc (.cells #[.int .i64 q.a, .int .i64 q.b, .int .i64 q.c, .int .i64 q.d, .int .i64 1] 55)) (w.heap.size + 1 + 1 + 1) [⟨q.a, q.b, q.c, q.d, 1⟩] := ⟨fun i z hz => by
    match i, hz with
    | 0, hz => simp at hz; subst hz; exact ⟨by simp [go_sem], by simp [go_sem], by simp [go_sem], by simp [go_sem], by simp [go_sem]⟩
    | n + 1, hz => simp at hz, fun j => by simp [go_sem], by simp <;> omega⟩
  have U3 : LBox ((((w.alloc (.cells #[.int .i64 q.a, .int .i64 q.b, .int .i64 q.c, .int .i64 q.d] 31)).alloc (.cells #[.int .i64 u.a, .int .i64 u.b, .int .i64 u.c, .int .i64 u.d, .int .i64 u.n] 55)).alloc (.cells #[.int .i64 v.a, .int .i64 v.b, .int .i64 v.c, .int .i64 v.d, .int .i64 v.n] 55)).alloc (.cells #[.int .i64 q.a, .int .i64 q.b, .int .i64 q.c, .int .i64 q.d, .int .i64 1] 55)) (w.heap.size + 1) [u] := ⟨fun i z hz => by
    match i, hz with
    | 0, hz => simp at hz; subst hz; exact ⟨by simp [go_sem], by simp [go_sem], by simp [go_sem], by simp [go_sem], by simp [go_sem]⟩
    | n + 1, hz => simp at hz, fun j => by simp [go_sem], by simp <;> omega⟩
  have V3 : LBox ((((w.alloc (.cells #[.int .i64 q.a, .int .i64 q.b, .int .i64 q.c, .int .i64 q.d] 31)).alloc (.cells #[.int .i64 u.a, .int .i64 u.b, .int .i64 u.c, .int .i64 u.d, .int .i64 u.n] 55)).alloc (.cells #[.int .i64 v.a, .int .i64 v.b, .int .i64 v.c, .int .i64 v.d, .int .i64 v.n] 55)).alloc (.cells #[.int .i64 q.a, .int .i64 q.b, .int .i64 q.c, .int .i64 q.d, .int .i64 1] 55)) (w.heap.size + 1 + 1) [v] := ⟨fun i z hz => by
    match i, hz with
    | 0, hz => simp at hz; subst hz; exact ⟨by simp [go_sem], by simp [go_sem], by simp [go_sem], by simp [go_sem], by simp [go_sem]⟩
    | n + 1, hz => simp at hz, fun j => by simp [go_sem], by simp <;> omega⟩
  have BX : Below w.heap.size w ((((w.alloc (.cells #[.int .i64 q.a, .int .i64 q.b, .int .i64 q.c, .int .i64 q.d] 31)).alloc (.cells #[.int .i64 u.a, .int .i64 u.b, .int .i64 u.c, .int .i64 u.d, .int .i64 u.n] 55)).alloc (.cells #[.int .i64 v.a, .int .i64 v.b, .int .i64 v.c, .int .i64 v.d, .int .i64 v.n] 55)).alloc (.cells #[.int .i64 q.a, .int .i64 q.b, .int .i64 q.c, .int .i64 q.d, .int .i64 1] 55)) := ba3.trans (ba1.mono (by simp; omega))
  have HP3 := Lib.hid P3
  have HU3 := Lib.hid U3
  have HV3 := Lib.hid V3
  have HBX := Lib.hid BX
  clear P3 U3 V3 BX
  generalize (((w.alloc (.cells #[.int .i64 q.a, .int .i64 q.b, .int .i64 q.c, .int .i64 q.d] 31)).alloc (.cells #[.int .i64 u.a, .int .i64 u.b, .int .i64 u.c, .int .i64 u.d, .int .i64 u.n] 55)).alloc (.cells #[.int .i64 v.a, .int .i64 v.b, .int .i64 v.c, .int .i64 v.d, .int .i64 v.n] 55)).alloc (.cells #[.int .i64 q.a, .int .i64 q.b, .int .i64 q.c, .int .i64 q.d, .int .i64 1] 55) = X at *
  obtain ⟨⟨p0, p1, p2, p3, p4⟩, pf, pl⟩ := one_boxI HP3.out
  obtain ⟨⟨u0, u1, u2, u3, u4⟩, uf, ul⟩ := one_boxI HU3.out
  obtain ⟨⟨v0, v1, v2, v3, v4⟩, vf, vl⟩ := one_boxI HV3.out
  apply Wide.region_two 6 (.cells #[.int .i64 0, .int .i64 0, .int .i64 0, .int .i64 0, .int .i64 0] 55) (.cells #[.int .i64 0, .int .i64 0, .int .i64 0, .int .i64 0, .int .i64 0] 55) (some 8) (some 9) (by kernel_rfl) (by kernel_rfl) (by kernel_rfl) ⟨_, rfl, rfl, fun a W => ⟨rfl, by simp [go_sem]⟩⟩ ⟨_, rfl, rfl, fun a W => ⟨rfl, by simp [go_sem]⟩⟩
  · intro B hB
    have kc := @Tail.cell_re
    have hcB := Tail.cells hB
    have zB0 := Nat.lt_of_lt_of_le pl hB.size
    have zB1 := Nat.lt_of_lt_of_le ul hB.size
    have zB2 := Nat.lt_of_lt_of_le vl hB.size
    simp only [List.take_succ_cons, List.take_zero]
    repeat (go_big_quiet_step (first | (with_reducible exact Calls.regrown_of (c1 _)) | (with_reducible exact Calls.regrown_of (c2 _))))
    exact wpQuiet_nil rfl
  · intro b c w2 hb hcc hbc hw2 hx2 hy2
    simp only [List.drop_succ_cons, List.drop_zero]
    have k0 := Wide.cell_at hx2 0 _ rfl
    have k1 := Wide.cell_at hx2 1 _ rfl
    have k2 := Wide.cell_at hx2 2 _ rfl
    have k3 := Wide.cell_at hx2 3 _ rfl
    have k4 := Wide.cell_at hx2 4 _ rfl
    have f := Wide.free_at hx2
    have m0 := Wide.cell_at hy2 0 _ rfl
    have m1 := Wide.cell_at hy2 1 _ rfl
    have m2 := Wide.cell_at hy2 2 _ rfl
    have m3 := Wide.cell_at hy2 3 _ rfl
    have m4 := Wide.cell_at hy2 4 _ rfl
    have f' := Wide.free_at hy2
    have hbc' : b ≠ c := fun h => hbc h.symm
    have GB := hw2.grown (grown_setCells b [.int .i64 x.a, .int .i64 x.b, .int .i64 x.c, .int .i64 x.d, .int .i64 x.n] 0 w2) hw2.size (fun j e => by cases e; exact hb)
    have GC := GB.grown (grown_setCells c [.int .i64 y.a, .int .i64 y.b, .int .i64 y.c, .int .i64 y.d, .int .i64 y.n] 0 (w2.setCells b 0 [.int .i64 x.a, .int .i64 x.b, .int .i64 x.c, .int .i64 x.d, .int .i64 x.n])) GB.size (fun j e => by cases e; exact hcc)
    change Below X.heap.size X ((((((((((w2.setCell ⟨b, 0, none⟩ (.int .i64 x.a)).setCell ⟨b, 1, none⟩ (.int .i64 x.b)).setCell ⟨b, 2, none⟩ (.int .i64 x.c)).setCell ⟨b, 3, none⟩ (.int .i64 x.d)).setCell ⟨b, 4, none⟩ (.int .i64 x.n)).setCell ⟨c, 0, none⟩ (.int .i64 y.a)).setCell ⟨c, 1, none⟩ (.int .i64 y.b)).setCell ⟨c, 2, none⟩ (.int .i64 y.c)).setCell ⟨c, 3, none⟩ (.int .i64 y.d)).setCell ⟨c, 4, none⟩ (.int .i64 y.n)) at GC
    have HBY := Lib.hid (HBX.out.trans (GC.mono HBX.out.size))
    clear hx2 hy2 hw2 c1 c2 p0 p1 p2 p3 p4 pf pl u0 u1 u2 u3 u4 uf ul v0 v1 v2 v3 v4 vf vl GB GC hb hcc
    by_cases ta : x.a * y.n = y.a * x.n
    · have ua : (x.a * y.n == y.a * x.n) = true := by simpa using ta
      by_cases tb : x.b * y.n = y.b * x.n
      · have ub : (x.b * y.n == y.b * x.n) = true := by simpa using tb
        by_cases tc : x.c * y.n = y.c * x.n
        · have uc : (x.c * y.n == y.c * x.n) = true := by simpa using tc
          by_cases td : x.d * y.n = y.d * x.n
          · have ud : (x.d * y.n == y.d * x.n) = true := by simpa using td
            obtain rfl : d = true := HD.out.1 ⟨ta, tb, tc, td⟩
            clear ta tb tc td
            go_wp2
            go_ret
            exact ⟨rfl, HBY.out⟩
          · have ud : (x.d * y.n == y.d * x.n) = false := by simpa using td
            obtain rfl : d = false := HD.out.2 (fun h => td h.2.2.2)
            clear ta tb tc td
            go_wp2
            go_ret
            exact ⟨rfl, HBY.out⟩
        · have uc : (x.c * y.n == y.c * x.n) = false := by simpa using tc
          obtain rfl : d = false := HD.out.2 (fun h => tc h.2.2.1)
          clear ta tb tc
          go_wp2
          go_ret
          exact ⟨rfl, HBY.out⟩
      · have ub : (x.b * y.n == y.b * x.n) = false := by simpa using tb
        obtain rfl : d = false := HD.out.2 (fun h => tb h.2.1)
        clear ta tb
        go_wp2
        go_ret
        exact ⟨rfl, HBY.out⟩
    · have ua : (x.a * y.n == y.a * x.n) = false := by simpa using ta
      obtain rfl : d = false := HD.out.2 (fun h => ta h.1)
      clear ta
      go_wp2
      go_ret
      exact ⟨rfl, HBY.out⟩
set_option maxHeartbeats 3200000 in
theorem pair_err (a b c a' b' c' r : Int) (ao bo : Option Addr) (cap cap' : Nat) (L M : List Q) (ms ns : List Int) (w : World) (h : LiesO w ao L) (h' : LiesO w bo M) (hr : prR a b c L ms a' b' c' M ns r) (h0 : r ≠ 0) (hlen : L.length ≤ 1000000) (hlen' : M.length ≤ 1000000) : Calls Tryz.prog 25 #[.agg #[.int .i64 a, .int .i64 b, .int .i64 c, .slice ao L.length cap], .agg #[.int .i64 a', .int .i64 b', .int .i64 c', .slice bo M.length cap']] w fun e w' => e = .returned (.int .i64 r) ∧ Below w.heap.size w w' := by
  have H := Lib.hid h
  have H' := Lib.hid h'
  rcases hr with ⟨hr, -⟩ | ⟨hr, hr', -⟩ | ⟨hr, hr', q1, q2, hq1, hq2, hqr⟩
  · have c1 := fun (W : World) (h : LiesO W ao L) => refValidateF_any a b c r ao cap L W h hr hlen
    have h0' : (r != 0) = true := by simpa using h0
    clear h h' hr h0
    go_enter Tryz.func25, Tryz.ntmps25
    go_wp2_with (fail)
    refine (c1 _ (H.out.later ba2)).mono ?_
    rintro e w1 ⟨rfl, hw1⟩
    go_wp2
    go_ret
    exact ⟨rfl, bel2 hw1⟩
  · have c1 := fun (W : World) (h : LiesO W ao L) => refValidateF_any a b c 0 ao cap L W h hr hlen
    have c2 := fun (W : World) (h : LiesO W bo M) => refValidateF_any a' b' c' r bo cap' M W h hr' hlen'
    have h0' : (r != 0) = true := by simpa using h0
    clear h h' hr hr' h0
    go_enter Tryz.func25, Tryz.ntmps25
    have G0 := Lib.hid (FW.n2b (w := w) (x := a') (y := b') (z := c') (v := .slice bo M.length cap') (T := 25) (o := .cells #[.int .i64 a, .int .i64 b, .int .i64 c, .slice ao L.length cap] 25))
    go_wp2_with (fail)
    refine (c1 _ (H.out.later ba2)).mono ?_
    rintro e w1 ⟨rfl, hw1⟩
    obtain ⟨g0, g1, g2, g3, gf, gl⟩ := G0.out.later hw1
    have b1 := bel2 hw1
    clear c1 G0 hw1
    go_wp2_with (fail)
    refine (c2 _ (H'.out.later b1)).mono ?_
    rintro e w2 ⟨rfl, hw2⟩
    go_wp2
    go_ret
    exact ⟨rfl, b1.trans (hw2.mono b1.size)⟩
  · have c1 := fun (W : World) (h : LiesO W ao L) => refValidateF_any a b c 0 ao cap L W h hr hlen
    have c2 := fun (W : World) (h : LiesO W bo M) => refValidateF_any a' b' c' 0 bo cap' M W h hr' hlen'
    obtain ⟨r1, hr1, hv1⟩ : ∃ r1, numsR a b c L ms r1 ∧ (q1 = true ∧ r1 = 0 ∨ q1 = false ∧ r1 = 7) := by
      cases q1
      · exact ⟨7, .inr ⟨hr, .inr ⟨hq1, rfl⟩⟩, .inr ⟨rfl, rfl⟩⟩
      · exact ⟨0, .inr ⟨hr, .inl ⟨hq1, rfl⟩⟩, .inl ⟨rfl, rfl⟩⟩
    obtain ⟨r2, hr2, hv2⟩ : ∃ r2, numsR a' b' c' M ns r2 ∧ (q2 = true ∧ r2 = 0 ∨ q2 = false ∧ r2 = 7) := by
      cases q2
      · exact ⟨7, .inr ⟨hr', .inr ⟨hq2, rfl⟩⟩, .inr ⟨rfl, rfl⟩⟩
      · exact ⟨0, .inr ⟨hr', .inl ⟨hq2, rfl⟩⟩, .inl ⟨rfl, rfl⟩⟩
    have c3 := fun (W : World) (h : LiesO W ao L) => little_any a b c r1 ao cap L ms W h hr1 hlen
    have c4 := fun (W : World) (h : LiesO W bo M) => little_any a' b' c' r2 bo cap' M ns W h hr2 hlen'
    have h7 : r = 7 ∧ (r1 = 7 ∨ (r1 = 0 ∧ r2 = 7)) := by
      rcases hv1 with ⟨e1, e2⟩ | ⟨e1, e2⟩
      · rcases hv2 with ⟨e3, e4⟩ | ⟨e3, e4⟩
        · rw [hqr, if_pos ⟨e1, e3⟩] at h0; exact absurd rfl h0
        · exact ⟨by rw [hqr, if_neg (by rw [e3]; simp)], .inr ⟨e2, e4⟩⟩
      · exact ⟨by rw [hqr, if_neg (by rw [e1]; simp)], .inl e2⟩
    obtain ⟨rfl, h7⟩ := h7
    clear h h' hr hr' h0 hq1 hq2 hqr hr1 hr2 hv1 hv2
    go_enter Tryz.func25, Tryz.ntmps25
    have F0 := Lib.hid (FW.n2a (w := w) (x := a) (y := b) (z := c) (v := .slice ao L.length cap) (T := 25) (o := .cells #[.int .i64 a', .int .i64 b', .int .i64 c', .slice bo M.length cap'] 25))
    have G0 := Lib.hid (FW.n2b (w := w) (x := a') (y := b') (z := c') (v := .slice bo M.length cap') (T := 25) (o := .cells #[.int .i64 a, .int .i64 b, .int .i64 c, .slice ao L.length cap] 25))
    go_wp2_with (fail)
    refine (c1 _ (H.out.later ba2)).mono ?_
    rintro e w1 ⟨rfl, hw1⟩
    have b1 := bel2 hw1
    have F1 := Lib.hid (F0.out.later hw1)
    have G1 := Lib.hid (G0.out.later hw1)
    clear c1 G0 F0 hw1
    obtain ⟨g0, g1, g2, g3, gf, gl⟩ := G1.out
    go_wp2_with (fail)
    refine (c2 _ (H'.out.later b1)).mono ?_
    rintro e w2 ⟨rfl, hw2⟩
    have b2 := b1.trans (hw2.mono b1.size)
    have F2 := Lib.hid (F1.out.later hw2)
    have G2 := Lib.hid (G1.out.later hw2)
    clear c2 G1 F1 hw2 g0 g1 g2 g3 gf gl b1
    obtain ⟨f0, f1, f2, f3, ff, fl⟩ := F2.out
    go_wp2_with (fail)
    refine (c3 _ (H.out.later b2)).mono ?_
    rintro e w3 ⟨rfl, hw3⟩
    have b3 := b2.trans (hw3.mono b2.size)
    have G3 := Lib.hid (G2.out.later hw3)
    clear c3 G2 F2 hw3 f0 f1 f2 f3 ff fl b2
    rcases h7 with rfl | ⟨rfl, rfl⟩
    · go_wp2
      go_ret
      exact ⟨rfl, b3⟩
    · obtain ⟨g0, g1, g2, g3, gf, gl⟩ := G3.out
      go_wp2_with (fail)
      refine (c4 _ (H'.out.later b3)).mono ?_
      rintro e w4 ⟨rfl, hw4⟩
      go_wp2
      go_ret
      exact ⟨rfl, b3.trans (hw4.mono b3.size)⟩
set_option maxHeartbeats 3200000 in
theorem pair_ok (a b c a' b' c' r : Int) (ao bo : Option Addr) (cap cap' : Nat) (L M : List Q) (ms ns : List Int) (w : World) (h : LiesO w ao L) (h' : LiesO w bo M) (hF : fldR a b c L 0) (hF' : fldR a' b' c' M 0) (hS : smR L ms true) (hS' : smR M ns true) (hlen : L.length ≤ 1000000) (hlen' : M.length ≤ 1000000) (hd : ((a = a' ∧ b = b' ∧ c = c') ∧ r = 0) ∨ (¬ (a = a' ∧ b = b' ∧ c = c') ∧ r = 8)) : Calls Tryz.prog 25 #[.agg #[.int .i64 a, .int .i64 b, .int .i64 c, .slice ao L.length cap], .agg #[.int .i64 a', .int .i64 b', .int .i64 c', .slice bo M.length cap']] w fun e w' => e = .returned (.int .i64 r) ∧ Below w.heap.size w w' := by
  have H := Lib.hid h
  have H' := Lib.hid h'
  have c1 := fun (W : World) (h : LiesO W ao L) => refValidateF_any a b c 0 ao cap L W h hF hlen
  have c2 := fun (W : World) (h : LiesO W bo M) => refValidateF_any a' b' c' 0 bo cap' M W h hF' hlen'
  have c3 := fun (W : World) (h : LiesO W ao L) => little_any a b c 0 ao cap L ms W h (.inr ⟨hF, .inl ⟨hS, rfl⟩⟩) hlen
  have c4 := fun (W : World) (h : LiesO W bo M) => little_any a' b' c' 0 bo cap' M ns W h (.inr ⟨hF', .inl ⟨hS', rfl⟩⟩) hlen'
  obtain ⟨d, qx, hdr⟩ : ∃ d : Bool, (∀ W, Sem.run Tryz.prog (Op.equalIn 10000 22 (.agg #[.int .i64 a, .int .i64 b, .int .i64 c]) (.agg #[.int .i64 a', .int .i64 b', .int .i64 c'])) W = .ok d W) ∧ ((d = true ∧ r = 0) ∨ (d = false ∧ r = 8)) := by
    rcases hd with ⟨hd, rfl⟩ | ⟨hd, rfl⟩
    · exact ⟨true, fun W => by rw [eq3v, decide_eq_true hd], .inl ⟨rfl, rfl⟩⟩
    · exact ⟨false, fun W => by rw [eq3v, decide_eq_false hd], .inr ⟨rfl, rfl⟩⟩
  clear h h' hF hF' hS hS' hd
  go_enter Tryz.func25, Tryz.ntmps25
  have F0 := Lib.hid (FW.n2a (w := w) (x := a) (y := b) (z := c) (v := .slice ao L.length cap) (T := 25) (o := .cells #[.int .i64 a', .int .i64 b', .int .i64 c', .slice bo M.length cap'] 25))
  have G0 := Lib.hid (FW.n2b (w := w) (x := a') (y := b') (z := c') (v := .slice bo M.length cap') (T := 25) (o := .cells #[.int .i64 a, .int .i64 b, .int .i64 c, .slice ao L.length cap] 25))
  go_wp2_with (fail)
  refine (c1 _ (H.out.later ba2)).mono ?_
  rintro e w1 ⟨rfl, hw1⟩
  have b1 := bel2 hw1
  have F1 := Lib.hid (F0.out.later hw1)
  have G1 := Lib.hid (G0.out.later hw1)
  clear c1 G0 F0 hw1
  obtain ⟨g0, g1, g2, g3, gf, gl⟩ := G1.out
  go_wp2_with (fail)
  refine (c2 _ (H'.out.later b1)).mono ?_
  rintro e w2 ⟨rfl, hw2⟩
  have b2 := b1.trans (hw2.mono b1.size)
  have F2 := Lib.hid (F1.out.later hw2)
  have G2 := Lib.hid (G1.out.later hw2)
  clear c2 G1 F1 hw2 g0 g1 g2 g3 gf gl b1
  obtain ⟨f0, f1, f2, f3, ff, fl⟩ := F2.out
  go_wp2_with (fail)
  refine (c3 _ (H.out.later b2)).mono ?_
  rintro e w3 ⟨rfl, hw3⟩
  have b3 := b2.trans (hw3.mono b2.size)
  have F3 := Lib.hid (F2.out.later hw3)
  have G3 := Lib.hid (G2.out.later hw3)
  clear c3 G2 F2 hw3 f0 f1 f2 f3 ff fl b2
  obtain ⟨g0, g1, g2, g3, gf, gl⟩ := G3.out
  go_wp2_with (fail)
  refine (c4 _ (H'.out.later b3)).mono ?_
  rintro e w4 ⟨rfl, hw4⟩
  have b4 := b3.trans (hw4.mono b3.size)
  have F4 := Lib.hid (F3.out.later hw4)
  have G4 := Lib.hid (G3.out.later hw4)
  clear c4 G3 F3 hw4 g0 g1 g2 g3 gf gl b3
  obtain ⟨f0, f1, f2, f3, ff, fl⟩ := F4.out
  obtain ⟨g0, g1, g2, g3, gf, gl⟩ := G4.out
  rcases hdr with ⟨rfl, rfl⟩ | ⟨rfl, rfl⟩
  · go_wp2
    go_ret
    exact ⟨rfl, b4⟩
  · go_wp2
    go_ret
    exact ⟨rfl, b4⟩
end Go.Proofs.YtkgihmhehkaocaaGreat

/- Which quaternions are certificates, as the document's answers find it: Check.
Conditions: those written at each theorem. -/
namespace Go.Proofs.YtkgihmhehkaocaaGreat
set_option linter.unusedVariables false
set_option linter.unusedSimpArgs false
set_option maxRecDepth 1000000
open Go.RowKit
open Um Tm

set_option maxHeartbeats 12800000 in
theorem refCk_ok (a b c : Int) (bl off bl' off' cap cap' N : Nat) (L M : List Q) (ms ns : List Int) (q : Q) (r : Int) (w : World) (h : Lies w bl off L) (h' : Lies w bl' off' M) (hF : fldR a b c L 0) (hF' : fldR a b c M 0) (hS : smR L ms true) (hS' : smR M ns true) (hN : (N : Int) = a * b * c) (hO : ckO (lpL a b c N L) (lpL a b c N M) q r) : Calls Tryz.prog 11 #[.agg #[.int .i64 a, .int .i64 b, .int .i64 c, .slice (some ⟨bl, off, none⟩) L.length cap], .agg #[.int .i64 a, .int .i64 b, .int .i64 c, .slice (some ⟨bl', off', none⟩) M.length cap'], .agg #[.int .i64 q.a, .int .i64 q.b, .int .i64 q.c, .int .i64 q.d]] w fun e w' => e = .returned (.int .i64 r) ∧ Below w.heap.size w w' := by
  have hn := (fldR_ok hF).2.1
  have hn' := (fldR_ok hF').2.1
  have hz := (fldR_ok hF).1
  have hp16 := hz.p
  have hA := AllS.num hS
  have hA' := AllS.num hS'
  have c1 := fun (W : World) (h : LiesO W (some ⟨bl, off, none⟩) L) (h' : LiesO W (some ⟨bl', off', none⟩) M) => pair_ok a b c a b c 0 (some ⟨bl, off, none⟩) (some ⟨bl', off', none⟩) cap cap' L M ms ns W h h' hF hF' hS hS' (by omega) (by omega) (.inl ⟨⟨rfl, rfl, rfl⟩, rfl⟩)
  have CL := fun (W : World) (h : Lies W bl off L) => refLp_ok a b c bl off cap N L W h hF hA hN
  have CM := fun (W : World) (h : Lies W bl' off' M) => refLp_ok a b c bl' off' cap' N M W h hF' hA' hN
  have hFl : Fl a b c L := ⟨(fldR_ok hF).1, (fldR_ok hF).2.1, (fldR_ok hF).2.2⟩
  have hFl' : Fl a b c M := ⟨(fldR_ok hF').1, (fldR_ok hF').2.1, (fldR_ok hF').2.2⟩
  have hX : AllS (lpL a b c N L) := lpK_all _ (fxL_all hFl hA hN) _ (by rw [fxL_len]; exact Nat.le_refl _)
  have hY : AllS (lpL a b c N M) := lpK_all _ (fxL_all hFl' hA' hN) _ (by rw [fxL_len]; exact Nat.le_refl _)
  have hLM : L.length = M.length := by omega
  have hXl : (lpL a b c N L).length ≤ 48 := Nat.le_trans (lpK_len _ _ _) (by omega)
  have hYl : (lpL a b c N M).length = (lpL a b c N L).length := by unfold lpL; rw [hLM]; exact lpK_len_eq _ _ _ _
  have H := Lib.hid h
  have H' := Lib.hid h'
  clear h h' hF hF' hS hS' hN hz hn hn' hp16 hA hA' hFl hFl' hLM
  generalize lpL a b c N L = X at *
  generalize lpL a b c N M = Y at *
  have HT : Hid (B4 q 1000 → ∀ k, k < X.length → ∃ (x y : Q) (d : Bool), X[k]? = some x ∧ Y[k]? = some y ∧ (turnsP q (lk X (k : Int)) (lk Y (k : Int)) → d = true) ∧ (¬ turnsP q (lk X (k : Int)) (lk Y (k : Int)) → d = false) ∧ ∀ W : World, Calls Tryz.prog 30 #[.agg #[.int .i64 q.a, .int .i64 q.b, .int .i64 q.c, .int .i64 q.d], .agg #[.int .i64 x.a, .int .i64 x.b, .int .i64 x.c, .int .i64 x.d, .int .i64 x.n], .agg #[.int .i64 y.a, .int .i64 y.b, .int .i64 y.c, .int .i64 y.d, .int .i64 y.n]] W fun e w' => e = .returned (.bool d) ∧ Below W.heap.size W w') := Lib.hid (fun hq k hk => by
    have hx := lk_at (L := X) (i := k) hk
    have hy := lk_at (L := Y) (i := k) (by omega)
    by_cases hd : turnsP q (lk X (k : Int)) (lk Y (k : Int))
    · exact ⟨_, _, true, hx, hy, fun _ => rfl, fun h => absurd hd h, fun W => turns_any q _ _ true W hq (hX _ _ hx) (hY _ _ hy) ⟨fun _ => rfl, fun h => absurd hd h⟩⟩
    · exact ⟨_, _, false, hx, hy, fun h => absurd h hd, fun _ => rfl, fun W => turns_any q _ _ false W hq (hX _ _ hx) (hY _ _ hy) ⟨fun h => absurd h hd, fun _ => rfl⟩⟩)
  have HYL := Lib.hid hYl
  have HO := Lib.hid hO
  clear hX hY hYl hO
  go_enter Tryz.func11, Tryz.ntmps11
  have Q0 := Lib.hid (C4.n3c (w := w) (v0 := .int .i64 q.a) (v1 := .int .i64 q.b) (v2 := .int .i64 q.c) (v3 := .int .i64 q.d) (T := 31) (o := .cells #[.int .i64 a, .int .i64 b, .int .i64 c, .slice (some ⟨bl, off, none⟩) L.length cap] 25) (p := .cells #[.int .i64 a, .int .i64 b, .int .i64 c, .slice (some ⟨bl', off', none⟩) M.length cap'] 25))
  have F0 := Lib.hid (FW.n3a (w := w) (x := a) (y := b) (z := c) (v := .slice (some ⟨bl, off, none⟩) L.length cap) (T := 25) (o := .cells #[.int .i64 a, .int .i64 b, .int .i64 c, .slice (some ⟨bl', off', none⟩) M.length cap'] 25) (p := .cells #[.int .i64 q.a, .int .i64 q.b, .int .i64 q.c, .int .i64 q.d] 31))
  have G0 := Lib.hid (FW.n3b (w := w) (x := a) (y := b) (z := c) (v := .slice (some ⟨bl', off', none⟩) M.length cap') (T := 25) (o := .cells #[.int .i64 a, .int .i64 b, .int .i64 c, .slice (some ⟨bl, off, none⟩) L.length cap] 25) (p := .cells #[.int .i64 q.a, .int .i64 q.b, .int .i64 q.c, .int .i64 q.d] 31))
  go_wp2_with (fail)
  refine (c1 _ (.inr ⟨_, _, rfl, H.out.later ba3⟩) (.inr ⟨_, _, rfl, H'.out.later ba3⟩)).mono ?_
  rintro e w1 ⟨rfl, hw1⟩
  have HB := Lib.hid (bel3 hw1)
  have Q1 := Lib.hid (Q0.out.later hw1)
  have F1 := Lib.hid (F0.out.later hw1)
  have G1 := Lib.hid (G0.out.later hw1)
  clear c1 Q0 F0 G0 hw1
  obtain ⟨q0, q1, q2, q3, qf, ql⟩ := Q1.out
  go_wp2
  refine wp_loop_rounds 5 ?_
  rw [rounds_succ]
  by_cases ha : -1000 ≤ q.a ∧ q.a ≤ 1000
  rotate_left
  · have hr1 : r = 1 := by
      rcases HO.out with ⟨_, h⟩ | ⟨h, _⟩ | ⟨h, _⟩ | ⟨h, _⟩
      · exact h
      all_goals exact absurd h.a ha
    subst hr1
    by_cases hhi : 1000 < q.a
    · clear ha
      go_wp2
      go_ret
      exact ⟨rfl, HB.out⟩
    · have hlo : q.a < -1000 := by omega
      clear ha
      go_wp2
      go_ret
      exact ⟨rfl, HB.out⟩
  obtain ⟨a1, a2⟩ := ha
  go_wp2
  rw [rounds_succ]
  by_cases hb : -1000 ≤ q.b ∧ q.b ≤ 1000
  rotate_left
  · have hr1 : r = 1 := by
      rcases HO.out with ⟨_, h⟩ | ⟨h, _⟩ | ⟨h, _⟩ | ⟨h, _⟩
      · exact h
      all_goals exact absurd h.b hb
    subst hr1
    by_cases hhi : 1000 < q.b
    · clear hb
      go_wp2
      go_ret
      exact ⟨rfl, HB.out⟩
    · have hlo : q.b < -1000 := by omega
      clear hb
      go_wp2
      go_ret
      exact ⟨rfl, HB.out⟩
  obtain ⟨b1, b2⟩ := hb
  go_wp2
  rw [rounds_succ]
  by_cases hc : -1000 ≤ q.c ∧ q.c ≤ 1000
  rotate_left
  · have hr1 : r = 1 := by
      rcases HO.out with ⟨_, h⟩ | ⟨h, _⟩ | ⟨h, _⟩ | ⟨h, _⟩
      · exact h
      all_goals exact absurd h.c hc
    subst hr1
    by_cases hhi : 1000 < q.c
    · clear hc
      go_wp2
      go_ret
      exact ⟨rfl, HB.out⟩
    · have hlo : q.c < -1000 := by omega
      clear hc
      go_wp2
      go_ret
      exact ⟨rfl, HB.out⟩
  obtain ⟨c1, c2⟩ := hc
  go_wp2
  rw [rounds_succ]
  by_cases hd : -1000 ≤ q.d ∧ q.d ≤ 1000
  rotate_left
  · have hr1 : r = 1 := by
      rcases HO.out with ⟨_, h⟩ | ⟨h, _⟩ | ⟨h, _⟩ | ⟨h, _⟩
      · exact h
      all_goals exact absurd h.d hd
    subst hr1
    by_cases hhi : 1000 < q.d
    · clear hd
      go_wp2
      go_ret
      exact ⟨rfl, HB.out⟩
    · have hlo : q.d < -1000 := by omega
      clear hd
      go_wp2
      go_ret
      exact ⟨rfl, HB.out⟩
  obtain ⟨d1, d2⟩ := hd
  go_wp2
  rw [rounds_succ]
  by_cases hz : Z4 q
  · have qx : ∀ W, Sem.run Tryz.prog (Op.equalIn 10000 31 (.agg #[.int .i64 q.a, .int .i64 q.b, .int .i64 q.c, .int .i64 q.d]) (.agg #[.int .i64 0, .int .i64 0, .int .i64 0, .int .i64 0])) W = .ok true W := fun W => by rw [eq4v, decide_eq_true (show q.a = 0 ∧ q.b = 0 ∧ q.c = 0 ∧ q.d = 0 from hz)]
    have hr1 : r = 5 := by
      rcases HO.out with ⟨h, _⟩ | ⟨_, _, h⟩ | ⟨_, h, _⟩ | ⟨_, h, _⟩
      · exact absurd ⟨⟨a1, a2⟩, ⟨b1, b2⟩, ⟨c1, c2⟩, ⟨d1, d2⟩⟩ h
      · exact h
      · exact absurd hz h
      · exact absurd hz h
    subst hr1
    clear hz
    go_wp2
    go_ret
    exact ⟨rfl, HB.out⟩
  · have qx : ∀ W, Sem.run Tryz.prog (Op.equalIn 10000 31 (.agg #[.int .i64 q.a, .int .i64 q.b, .int .i64 q.c, .int .i64 q.d]) (.agg #[.int .i64 0, .int .i64 0, .int .i64 0, .int .i64 0])) W = .ok false W := fun W => by rw [eq4v, decide_eq_false (show ¬ (q.a = 0 ∧ q.b = 0 ∧ q.c = 0 ∧ q.d = 0) from hz)]
    have hor : (carP X Y q ∧ r = 0) ∨ (¬ carP X Y q ∧ r = 9) := by
      rcases HO.out with ⟨h, _⟩ | ⟨_, h, _⟩ | ⟨_, _, h1, h2⟩ | ⟨_, _, h1, h2⟩
      · exact absurd ⟨⟨a1, a2⟩, ⟨b1, b2⟩, ⟨c1, c2⟩, ⟨d1, d2⟩⟩ h
      · exact absurd h hz
      · exact .inl ⟨h1, h2⟩
      · exact .inr ⟨h1, h2⟩
    have HOR := Lib.hid hor
    have HQB : Hid (B4 q 1000) := Lib.hid ⟨⟨a1, a2⟩, ⟨b1, b2⟩, ⟨c1, c2⟩, ⟨d1, d2⟩⟩
    clear hz hor HO
    obtain ⟨f0, f1, f2, f3, ff, fl⟩ := F1.out
    obtain ⟨g0, g1, g2, g3, gf, gl⟩ := G1.out
    have K5 : Hid (∀ w' : World, Below w1.heap.size w1 w' → (w'.cell? ⟨w.heap.size, 0, none⟩ = some (.int .i64 a) ∧ w'.cell? ⟨w.heap.size, 1, none⟩ = some (.int .i64 b) ∧ w'.cell? ⟨w.heap.size, 2, none⟩ = some (.int .i64 c) ∧ w'.cell? ⟨w.heap.size, 3, none⟩ = some (.slice (some ⟨bl, off, none⟩) L.length cap) ∧ w'.cell? ⟨w.heap.size + 1, 0, none⟩ = some (.int .i64 a) ∧ w'.cell? ⟨w.heap.size + 1, 1, none⟩ = some (.int .i64 b) ∧ w'.cell? ⟨w.heap.size + 1, 2, none⟩ = some (.int .i64 c) ∧ w'.cell? ⟨w.heap.size + 1, 3, none⟩ = some (.slice (some ⟨bl', off', none⟩) M.length cap'))) := Lib.hid (fun w' h => ⟨held_belowG h f0, held_belowG h f1, held_belowG h f2, held_belowG h f3, held_belowG h g0, held_belowG h g1, held_belowG h g2, held_belowG h g3⟩)
    go_wp2_with (fail)
    clear qx q0 q1 q2 q3 qf ql
    go_region_held3 (fun w' => w'.cell? ⟨w.heap.size, 0, none⟩ = some (.int .i64 a) ∧ w'.cell? ⟨w.heap.size, 1, none⟩ = some (.int .i64 b) ∧ w'.cell? ⟨w.heap.size, 2, none⟩ = some (.int .i64 c) ∧ w'.cell? ⟨w.heap.size, 3, none⟩ = some (.slice (some ⟨bl, off, none⟩) L.length cap) ∧ w'.cell? ⟨w.heap.size + 1, 0, none⟩ = some (.int .i64 a) ∧ w'.cell? ⟨w.heap.size + 1, 1, none⟩ = some (.int .i64 b) ∧ w'.cell? ⟨w.heap.size + 1, 2, none⟩ = some (.int .i64 c) ∧ w'.cell? ⟨w.heap.size + 1, 3, none⟩ = some (.slice (some ⟨bl', off', none⟩) M.length cap'))
      (first
        | (with_reducible exact K5.out _ B6)
        | (with_reducible exact K5.out _ B5)
        | (with_reducible exact K5.out _ (Below.refl _ _))
        | go_keep)
      (first
        | ((with_reducible refine (CL _ (H.out.later (Below.drew HB.out))).mono ?_); rintro e w5 ⟨⟨xo, xk, rfl, hx⟩, hw5⟩; have B5 := belDG hw5; have HX5 := Lib.hid hx; clear hx)
        | ((with_reducible refine (CM _ (H'.out.later (HB.out.trans (B5.mono HB.out.size)))).mono ?_); rintro e w6 ⟨⟨yo, yk, rfl, hy⟩, hw6⟩; have HX6 := Lib.hid (HX5.out.later hw6); have HY6 := Lib.hid hy; have B6 := B5.trans (hw6.mono B5.size); clear hy))
    have HB6 := Lib.hid (HB.out.trans (B6.mono HB.out.size))
    have Q6 := Lib.hid (Q1.out.later B6)
    clear K5 f0 f1 f2 f3 ff fl g0 g1 g2 g3 gf gl CL CM hw5 hw6 B5 B6 HX5 F1 G1 Q1 HB
    go_wp2
    go_loopw [11] (fun p wr => ∃ j : Nat, j ≤ X.length ∧ p = .int .i64 j ∧ Hid (∀ i, i < j → turnsP q (lk X (i : Int)) (lk Y (i : Int))) ∧ Hid (Below w6.heap.size w6 wr)) (fun p _ => X.length - (intOf p).toNat)
    case atStart => exact ⟨0, by omega, rfl, Lib.hid (fun i h => absurd h (Nat.not_lt_zero _)), Lib.hid (Below.refl _ _)⟩
    case round =>
      obtain ⟨j, hj, rfl, hall, hb⟩ := hrel
      by_cases hlt : j < X.length
      · obtain ⟨x, y, d, hx, hy, hd1, hd2, cT⟩ := HT.out HQB.out j hlt
        obtain ⟨xb, xf, rfl, hxl⟩ : ∃ b f, xo = some ⟨b, f, none⟩ ∧ Lies w6 b f X := by
          rcases HX6.out with h | h
          · rw [h] at hlt; exact absurd hlt (by simp)
          · exact h
        obtain ⟨yb, yf, rfl, hyl⟩ : ∃ b f, yo = some ⟨b, f, none⟩ ∧ Lies w6 b f Y := by
          rcases HY6.out with h | h
          · have := HYL.out; rw [h] at this; rw [← this] at hlt; exact absurd hlt (by simp)
          · exact h
        obtain ⟨l0, l1, l2, l3, l4⟩ := (hxl.later hb.out) _ _ hx
        obtain ⟨m0, m1, m2, m3, m4⟩ := (hyl.later hb.out) _ _ hy
        obtain ⟨q0, q1, q2, q3, qf, ql⟩ := Q6.out.later hb.out
        have lb1 := World.block_lt_of_cell? _ _ l0
        have lb2 := World.block_lt_of_cell? _ _ m0
        have ik : (j : Int) < (X.length : Int) := by omega
        have iy : (j : Int) < (Y.length : Int) := by have := HYL.out; omega
        have HD1 := Lib.hid hd1
        have HD2 := Lib.hid hd2
        have HNX : Hid (turnsP q (lk X (j : Int)) (lk Y (j : Int)) → ∀ i, i < j + 1 → turnsP q (lk X (i : Int)) (lk Y (i : Int))) := Lib.hid (fun h i hi => by
          by_cases hij : i = j
          · subst hij; exact h
          · exact hall.out i (by omega))
        have HBAD : Hid (¬ turnsP q (lk X (j : Int)) (lk Y (j : Int)) → r = 9) := Lib.hid (fun h => by
          rcases HOR.out with ⟨h1, _⟩ | ⟨_, h1⟩
          · exact absurd (h1 j hlt) h
          · exact h1)
        clear hx hy hxl hyl hd1 hd2
        go_wp2_with (fail)
        refine Tail.region_below (by kernel_rfl) (by kernel_rfl) ?_
        have kc := @Tail.cell_re
        repeat (go_big_quiet_step (first | (with_reducible exact Calls.regrown_of (cT _))))
        refine wpQuiet_nil ?_
        intro w7 hw7
        have HB7 := Lib.hid (hb.out.trans (hw7.mono hb.out.size))
        clear hw7 l0 l1 l2 l3 l4 m0 m1 m2 m3 m4 q0 q1 q2 q3 qf ql lb1 lb2 cT hb hall
        by_cases ht : turnsP q (lk X (j : Int)) (lk Y (j : Int))
        · obtain rfl : d = true := HD1.out ht
          have HN := Lib.hid (HNX.out ht)
          clear ht
          go_wp2
          exact ⟨⟨j + 1, by omega, by go_num, HN, HB7⟩, by simp [intOf]; omega⟩
        · obtain rfl : d = false := HD2.out ht
          obtain rfl : r = 9 := HBAD.out ht
          have HBE := Lib.hid (HB6.out.trans (HB7.out.mono HB6.out.size))
          clear ht
          go_wp2
          go_ret
          exact ⟨rfl, HBE.out⟩
      · obtain rfl : j = X.length := by omega
        obtain rfl : r = 0 := by
          rcases HOR.out with ⟨_, h1⟩ | ⟨h1, _⟩
          · exact h1
          · exact absurd hall.out h1
        go_wp2
        go_ret
        exact ⟨rfl, HB6.out.trans (hb.out.mono HB6.out.size)⟩
end Go.Proofs.YtkgihmhehkaocaaGreat

/- The sanity check of the laws of layer 4, by the chapter's examples.
Conditions: none. -/
namespace Go.Proofs.YtkgihmhehkaocaaGreat
set_option linter.unusedVariables false
set_option linter.unusedSimpArgs false
set_option maxRecDepth 1000000
open Go.RowKit
open Um Tm

theorem smR_all {L : List Q} (h : AllS L) : ∃ ns, smR L ns true := by
  have key : ∀ k, k ≤ L.length → ∃ ms, Nums L ms k := by
    intro k
    induction k with
    | zero => exact fun _ => ⟨[], rfl, fun i x hi => absurd hi (Nat.not_lt_zero _)⟩
    | succ k ih =>
      intro hk
      obtain ⟨ms, hm⟩ := ih (by omega)
      have hx := List.getElem?_eq_getElem (show k < L.length by omega)
      obtain ⟨j, hj, he⟩ := sm2_is (h k _ hx)
      obtain ⟨r, b, hr⟩ := NumR.ex L[k]
      have hb : b = true := by
        rcases hr with ⟨_, _, _, _, _, hb⟩ | ⟨hno, _, _⟩
        · exact hb
        · exact absurd he.symm (hno j hj)
      subst hb
      exact ⟨_, nums_snoc hm hx hr⟩
  obtain ⟨ms, hm⟩ := key L.length (Nat.le_refl _)
  exact ⟨ms, .inl ⟨rfl, hm⟩⟩
def exA : List Q := [⟨0, 1, 0, 0, 1⟩, ⟨0, 0, 1, 0, 1⟩, ⟨0, 0, 0, 1, 1⟩]
def exB : List Q := [⟨0, 1, 0, 0, 1⟩, ⟨0, 0, 0, 1, 1⟩, ⟨0, 0, -1, 0, 1⟩]
theorem exS (L : List Q) (h : ∀ x ∈ L, ∃ k : Nat, k < 24 ∧ x = small k) : AllS L := fun i x hx => by
  obtain ⟨k, hk, rfl⟩ := h x (List.mem_of_getElem? hx)
  exact sm2_small hk
theorem exA_s : AllS exA := exS exA (by
  intro x hx
  have : ∀ x ∈ exA, ∃ k ∈ List.range 24, x = small (k : Int) := by decide +kernel
  obtain ⟨k, hk, he⟩ := this x hx
  exact ⟨k, List.mem_range.1 hk, he⟩)
theorem exB_s : AllS exB := exS exB (by
  intro x hx
  have : ∀ x ∈ exB, ∃ k ∈ List.range 24, x = small (k : Int) := by decide +kernel
  obtain ⟨k, hk, he⟩ := this x hx
  exact ⟨k, List.mem_range.1 hk, he⟩)
theorem sz111 : Sz 1 1 1 := ⟨by decide, by decide, by decide, by decide, by decide, by decide, by decide⟩
theorem fldR_small {a b c : Int} {L : List Q} (hz : Sz a b c) (hn : (L.length : Int) = 3 * (a * b * c)) (h : AllS L) : fldR a b c L 0 :=
  .inr (.inr ⟨hz, hn, .inl ⟨fun i x hx => .inr (.inr ⟨(h i x hx).1, by have := (h i x hx).2; omega, rfl⟩), rfl⟩⟩)
theorem lpA : lpL 1 1 1 1 exA = exA := by decide +kernel
theorem lpB : lpL 1 1 1 1 exB = exB := by decide +kernel
theorem ck1 : ckO exA exB ⟨1, 1, 0, 0, 0⟩ 0 := by
  refine .inr (.inr (.inl ⟨⟨by decide, by decide, by decide, by decide⟩, fun h => absurd h.1 (by decide), ?_, rfl⟩))
  unfold carP turnsP
  decide +kernel
theorem ck2 : ckO exA exB ⟨1, 0, 1, 0, 0⟩ 9 := by
  refine .inr (.inr (.inr ⟨⟨by decide, by decide, by decide, by decide⟩, fun h => absurd h.1 (by decide), ?_, rfl⟩))
  unfold carP turnsP
  decide +kernel
theorem tr221 : (trAt 2 2 1 (3 * 4)).2 = [0, 1, 4] := by decide +kernel
set_option maxHeartbeats 6400000 in
theorem sane4_any (w : World) : Calls Tryz.prog 7 #[] w fun e w' => e = .returned (.bool true) ∧ Below w.heap.size w w' := by
  obtain ⟨ms, hms⟩ := smR_all exA_s
  obtain ⟨ns, hns⟩ := smR_all exB_s
  have fA : fldR 1 1 1 exA 0 := fldR_small sz111 (by decide) exA_s
  have fB : fldR 1 1 1 exB 0 := fldR_small sz111 (by decide) exB_s
  have cA : ∀ (W : World) (b b' : Nat), Lies W b 0 exA → Lies W b' 0 exB → Calls Tryz.prog 24 #[.agg #[.int .i64 1, .int .i64 1, .int .i64 1, .slice (some ⟨b, 0, none⟩) 3 3], .agg #[.int .i64 1, .int .i64 1, .int .i64 1, .slice (some ⟨b', 0, none⟩) 3 3], .agg #[.int .i64 1, .int .i64 1, .int .i64 0, .int .i64 0]] W fun e w' => e = .returned (.int .i64 0) ∧ Below W.heap.size W w' := fun W b b' h h' => gaCk_ok 1 1 1 b 0 b' 0 3 3 1 exA exB ms ns ⟨1, 1, 0, 0, 0⟩ 0 W h h' fA fB hms hns (by decide) (by rw [lpA, lpB]; exact ck1)
  have cB : ∀ (W : World) (b b' : Nat), Lies W b 0 exA → Lies W b' 0 exB → Calls Tryz.prog 24 #[.agg #[.int .i64 1, .int .i64 1, .int .i64 1, .slice (some ⟨b, 0, none⟩) 3 3], .agg #[.int .i64 1, .int .i64 1, .int .i64 1, .slice (some ⟨b', 0, none⟩) 3 3], .agg #[.int .i64 1, .int .i64 0, .int .i64 1, .int .i64 0]] W fun e w' => e = .returned (.int .i64 9) ∧ Below W.heap.size W w' := fun W b b' h h' => gaCk_ok 1 1 1 b 0 b' 0 3 3 1 exA exB ms ns ⟨1, 0, 1, 0, 0⟩ 9 W h h' fA fB hms hns (by decide) (by rw [lpA, lpB]; exact ck2)
  have cT : ∀ W : World, Calls Tryz.prog 22 #[.agg #[.int .i64 2, .int .i64 2, .int .i64 1]] W fun e w' => (∃ ao k, e = .returned (.tuple #[.slice ao 3 k, .int .i64 0]) ∧ LiesOI w' ao [0, 1, 4]) ∧ Below W.heap.size W w' := fun W => by
    have := gaTree_ok 2 2 1 W ⟨by decide, by decide, by decide, by decide, by decide, by decide, by decide⟩ 4 (by decide)
    rw [tr221] at this
    exact this
  have cS : ∀ (W : World) (ao bo : Option Addr) (k k' : Nat), LiesOI W ao [0, 1, 4] → LiesOI W bo [0, 1, 4] → Calls Tryz.prog 23 #[.slice ao 3 k, .slice bo 3 k'] W fun e w' => e = .returned (.bool true) ∧ Below W.heap.size W w' := fun W ao bo k k' h h' => by
    have := sameInts4_any ao bo k k' [0, 1, 4] [0, 1, 4] W h h' (by decide)
    simpa using this
  clear hms hns fA fB
  go_enter Tryz.func7, Tryz.ntmps7
  go_wp2_with (fail)
  refine (cT _).mono ?_
  rintro e w1 ⟨⟨ao, k, rfl, ht⟩, hw1⟩
  have HT := Lib.hid ht
  clear cT ht
  have LA : Lies (((((((((w1).alloc (.cells #[.int .i64 0, .int .i64 1, .int .i64 0, .int .i64 0, .int .i64 1] 55)).alloc (.cells #[.int .i64 0, .int .i64 0, .int .i64 1, .int .i64 0, .int .i64 1] 55)).alloc (.cells #[.int .i64 0, .int .i64 0, .int .i64 0, .int .i64 1, .int .i64 1] 55)).alloc (.cells #[.int .i64 0, .int .i64 1, .int .i64 0, .int .i64 0, .int .i64 1, .int .i64 0, .int .i64 0, .int .i64 1, .int .i64 0, .int .i64 1, .int .i64 0, .int .i64 0, .int .i64 0, .int .i64 1, .int .i64 1] 55)).alloc (.cells #[.int .i64 1, .int .i64 1, .int .i64 1, .slice (some ⟨w1.heap.size + 1 + 1 + 1, 0, none⟩) 3 3] 25)).alloc (.cells #[.int .i64 0, .int .i64 1, .int .i64 0, .int .i64 0, .int .i64 1, .int .i64 0, .int .i64 0, .int .i64 0, .int .i64 1, .int .i64 1, .int .i64 0, .int .i64 0, .int .i64 (-1), .int .i64 0, .int .i64 1] 55)).alloc (.cells #[.int .i64 1, .int .i64 1, .int .i64 1, .slice (some ⟨w1.heap.size + 1 + 1 + 1 + 1 + 1, 0, none⟩) 3 3] 25)).alloc (.cells #[.int .i64 0, .int .i64 1, .int .i64 4] 3)) (w1.heap.size + 1 + 1 + 1) 0 exA := fun i x hx => by
    match i, hx with
    | 0, hx => simp [exA] at hx; subst hx; exact ⟨by simp [go_sem], by simp [go_sem], by simp [go_sem], by simp [go_sem], by simp [go_sem]⟩
    | 1, hx => simp [exA] at hx; subst hx; exact ⟨by simp [go_sem], by simp [go_sem], by simp [go_sem], by simp [go_sem], by simp [go_sem]⟩
    | 2, hx => simp [exA] at hx; subst hx; exact ⟨by simp [go_sem], by simp [go_sem], by simp [go_sem], by simp [go_sem], by simp [go_sem]⟩
    | n + 3, hx => simp [exA] at hx
  have LB : Lies (((((((((w1).alloc (.cells #[.int .i64 0, .int .i64 1, .int .i64 0, .int .i64 0, .int .i64 1] 55)).alloc (.cells #[.int .i64 0, .int .i64 0, .int .i64 1, .int .i64 0, .int .i64 1] 55)).alloc (.cells #[.int .i64 0, .int .i64 0, .int .i64 0, .int .i64 1, .int .i64 1] 55)).alloc (.cells #[.int .i64 0, .int .i64 1, .int .i64 0, .int .i64 0, .int .i64 1, .int .i64 0, .int .i64 0, .int .i64 1, .int .i64 0, .int .i64 1, .int .i64 0, .int .i64 0, .int .i64 0, .int .i64 1, .int .i64 1] 55)).alloc (.cells #[.int .i64 1, .int .i64 1, .int .i64 1, .slice (some ⟨w1.heap.size + 1 + 1 + 1, 0, none⟩) 3 3] 25)).alloc (.cells #[.int .i64 0, .int .i64 1, .int .i64 0, .int .i64 0, .int .i64 1, .int .i64 0, .int .i64 0, .int .i64 0, .int .i64 1, .int .i64 1, .int .i64 0, .int .i64 0, .int .i64 (-1), .int .i64 0, .int .i64 1] 55)).alloc (.cells #[.int .i64 1, .int .i64 1, .int .i64 1, .slice (some ⟨w1.heap.size + 1 + 1 + 1 + 1 + 1, 0, none⟩) 3 3] 25)).alloc (.cells #[.int .i64 0, .int .i64 1, .int .i64 4] 3)) (w1.heap.size + 1 + 1 + 1 + 1 + 1) 0 exB := fun i x hx => by
    match i, hx with
    | 0, hx => simp [exB] at hx; subst hx; exact ⟨by simp [go_sem], by simp [go_sem], by simp [go_sem], by simp [go_sem], by simp [go_sem]⟩
    | 1, hx => simp [exB] at hx; subst hx; exact ⟨by simp [go_sem], by simp [go_sem], by simp [go_sem], by simp [go_sem], by simp [go_sem]⟩
    | 2, hx => simp [exB] at hx; subst hx; exact ⟨by simp [go_sem], by simp [go_sem], by simp [go_sem], by simp [go_sem], by simp [go_sem]⟩
    | n + 3, hx => simp [exB] at hx
  have FA : FW (((((((((w1).alloc (.cells #[.int .i64 0, .int .i64 1, .int .i64 0, .int .i64 0, .int .i64 1] 55)).alloc (.cells #[.int .i64 0, .int .i64 0, .int .i64 1, .int .i64 0, .int .i64 1] 55)).alloc (.cells #[.int .i64 0, .int .i64 0, .int .i64 0, .int .i64 1, .int .i64 1] 55)).alloc (.cells #[.int .i64 0, .int .i64 1, .int .i64 0, .int .i64 0, .int .i64 1, .int .i64 0, .int .i64 0, .int .i64 1, .int .i64 0, .int .i64 1, .int .i64 0, .int .i64 0, .int .i64 0, .int .i64 1, .int .i64 1] 55)).alloc (.cells #[.int .i64 1, .int .i64 1, .int .i64 1, .slice (some ⟨w1.heap.size + 1 + 1 + 1, 0, none⟩) 3 3] 25)).alloc (.cells #[.int .i64 0, .int .i64 1, .int .i64 0, .int .i64 0, .int .i64 1, .int .i64 0, .int .i64 0, .int .i64 0, .int .i64 1, .int .i64 1, .int .i64 0, .int .i64 0, .int .i64 (-1), .int .i64 0, .int .i64 1] 55)).alloc (.cells #[.int .i64 1, .int .i64 1, .int .i64 1, .slice (some ⟨w1.heap.size + 1 + 1 + 1 + 1 + 1, 0, none⟩) 3 3] 25)).alloc (.cells #[.int .i64 0, .int .i64 1, .int .i64 4] 3)) (w1.heap.size + 1 + 1 + 1 + 1) 1 1 1 (.slice (some ⟨w1.heap.size + 1 + 1 + 1, 0, none⟩) 3 3) := ⟨by simp [go_sem], by simp [go_sem], by simp [go_sem], by simp [go_sem], fun j => by simp [go_sem], by simp <;> omega⟩
  have FB : FW (((((((((w1).alloc (.cells #[.int .i64 0, .int .i64 1, .int .i64 0, .int .i64 0, .int .i64 1] 55)).alloc (.cells #[.int .i64 0, .int .i64 0, .int .i64 1, .int .i64 0, .int .i64 1] 55)).alloc (.cells #[.int .i64 0, .int .i64 0, .int .i64 0, .int .i64 1, .int .i64 1] 55)).alloc (.cells #[.int .i64 0, .int .i64 1, .int .i64 0, .int .i64 0, .int .i64 1, .int .i64 0, .int .i64 0, .int .i64 1, .int .i64 0, .int .i64 1, .int .i64 0, .int .i64 0, .int .i64 0, .int .i64 1, .int .i64 1] 55)).alloc (.cells #[.int .i64 1, .int .i64 1, .int .i64 1, .slice (some ⟨w1.heap.size + 1 + 1 + 1, 0, none⟩) 3 3] 25)).alloc (.cells #[.int .i64 0, .int .i64 1, .int .i64 0, .int .i64 0, .int .i64 1, .int .i64 0, .int .i64 0, .int .i64 0, .int .i64 1, .int .i64 1, .int .i64 0, .int .i64 0, .int .i64 (-1), .int .i64 0, .int .i64 1] 55)).alloc (.cells #[.int .i64 1, .int .i64 1, .int .i64 1, .slice (some ⟨w1.heap.size + 1 + 1 + 1 + 1 + 1, 0, none⟩) 3 3] 25)).alloc (.cells #[.int .i64 0, .int .i64 1, .int .i64 4] 3)) (w1.heap.size + 1 + 1 + 1 + 1 + 1 + 1) 1 1 1 (.slice (some ⟨w1.heap.size + 1 + 1 + 1 + 1 + 1, 0, none⟩) 3 3) := ⟨by simp [go_sem], by simp [go_sem], by simp [go_sem], by simp [go_sem], fun j => by simp [go_sem], by simp <;> omega⟩
  have LI : LiesOI (((((((((w1).alloc (.cells #[.int .i64 0, .int .i64 1, .int .i64 0, .int .i64 0, .int .i64 1] 55)).alloc (.cells #[.int .i64 0, .int .i64 0, .int .i64 1, .int .i64 0, .int .i64 1] 55)).alloc (.cells #[.int .i64 0, .int .i64 0, .int .i64 0, .int .i64 1, .int .i64 1] 55)).alloc (.cells #[.int .i64 0, .int .i64 1, .int .i64 0, .int .i64 0, .int .i64 1, .int .i64 0, .int .i64 0, .int .i64 1, .int .i64 0, .int .i64 1, .int .i64 0, .int .i64 0, .int .i64 0, .int .i64 1, .int .i64 1] 55)).alloc (.cells #[.int .i64 1, .int .i64 1, .int .i64 1, .slice (some ⟨w1.heap.size + 1 + 1 + 1, 0, none⟩) 3 3] 25)).alloc (.cells #[.int .i64 0, .int .i64 1, .int .i64 0, .int .i64 0, .int .i64 1, .int .i64 0, .int .i64 0, .int .i64 0, .int .i64 1, .int .i64 1, .int .i64 0, .int .i64 0, .int .i64 (-1), .int .i64 0, .int .i64 1] 55)).alloc (.cells #[.int .i64 1, .int .i64 1, .int .i64 1, .slice (some ⟨w1.heap.size + 1 + 1 + 1 + 1 + 1, 0, none⟩) 3 3] 25)).alloc (.cells #[.int .i64 0, .int .i64 1, .int .i64 4] 3)) (some ⟨w1.heap.size + 1 + 1 + 1 + 1 + 1 + 1 + 1, 0, none⟩) [0, 1, 4] := .inr ⟨_, _, rfl, fun i x hx => by
    match i, hx with
    | 0, hx => simp at hx; subst hx; simp [go_sem]
    | 1, hx => simp at hx; subst hx; simp [go_sem]
    | 2, hx => simp at hx; subst hx; simp [go_sem]
    | n + 3, hx => simp at hx⟩
  have BW : Below w1.heap.size w1 (((((((((w1).alloc (.cells #[.int .i64 0, .int .i64 1, .int .i64 0, .int .i64 0, .int .i64 1] 55)).alloc (.cells #[.int .i64 0, .int .i64 0, .int .i64 1, .int .i64 0, .int .i64 1] 55)).alloc (.cells #[.int .i64 0, .int .i64 0, .int .i64 0, .int .i64 1, .int .i64 1] 55)).alloc (.cells #[.int .i64 0, .int .i64 1, .int .i64 0, .int .i64 0, .int .i64 1, .int .i64 0, .int .i64 0, .int .i64 1, .int .i64 0, .int .i64 1, .int .i64 0, .int .i64 0, .int .i64 0, .int .i64 1, .int .i64 1] 55)).alloc (.cells #[.int .i64 1, .int .i64 1, .int .i64 1, .slice (some ⟨w1.heap.size + 1 + 1 + 1, 0, none⟩) 3 3] 25)).alloc (.cells #[.int .i64 0, .int .i64 1, .int .i64 0, .int .i64 0, .int .i64 1, .int .i64 0, .int .i64 0, .int .i64 0, .int .i64 1, .int .i64 1, .int .i64 0, .int .i64 0, .int .i64 (-1), .int .i64 0, .int .i64 1] 55)).alloc (.cells #[.int .i64 1, .int .i64 1, .int .i64 1, .slice (some ⟨w1.heap.size + 1 + 1 + 1 + 1 + 1, 0, none⟩) 3 3] 25)).alloc (.cells #[.int .i64 0, .int .i64 1, .int .i64 4] 3)) := by repeat (first | (with_reducible exact Below.refl _ _) | (with_reducible refine Below.setCell ?_ ?_ _) | (with_reducible refine Below.drew ?_) | (with_reducible refine Below.alloc ?_ ?_ _) | omega | (simp <;> omega))
  have HLA := Lib.hid LA
  have HLB := Lib.hid LB
  have HFA := Lib.hid FA
  have HFB := Lib.hid FB
  have HLI := Lib.hid LI
  have HBW := Lib.hid BW
  clear LA LB FA FB LI BW
  go_wp2_with (fail)
  refine (cS _ _ _ _ _ (HT.out.later HBW.out) HLI.out).mono ?_
  rintro e w2 ⟨rfl, hw2⟩
  have B2 := Lib.hid (hw1.trans ((HBW.out.trans (hw2.mono HBW.out.size)).mono hw1.size))
  have A2 := Lib.hid (HLA.out.later hw2)
  have C2 := Lib.hid (HLB.out.later hw2)
  have E2 := Lib.hid (HFA.out.later hw2)
  have G2 := Lib.hid (HFB.out.later hw2)
  clear cS hw1 hw2 HLA HLB HFA HFB HLI HBW HT
  obtain ⟨f0, f1, f2, f3, ff, fl⟩ := E2.out
  obtain ⟨g0, g1, g2, g3, gf, gl⟩ := G2.out
  go_wp2_with (fail)
  refine (cA _ _ _ A2.out C2.out).mono ?_
  rintro e w3 ⟨rfl, hw3⟩
  have B3 := Lib.hid (B2.out.trans (hw3.mono B2.out.size))
  have A3 := Lib.hid (A2.out.later hw3)
  have C3 := Lib.hid (C2.out.later hw3)
  have E3 := Lib.hid (E2.out.later hw3)
  have G3 := Lib.hid (G2.out.later hw3)
  clear cA hw3 A2 C2 E2 G2 f0 f1 f2 f3 ff fl g0 g1 g2 g3 gf gl B2
  obtain ⟨f0, f1, f2, f3, ff, fl⟩ := E3.out
  obtain ⟨g0, g1, g2, g3, gf, gl⟩ := G3.out
  go_wp2_with (fail)
  refine (cB _ _ _ A3.out C3.out).mono ?_
  rintro e w4 ⟨rfl, hw4⟩
  have B4 := Lib.hid (B3.out.trans (hw4.mono B3.out.size))
  clear cB hw4 A3 C3 E3 G3 f0 f1 f2 f3 ff fl g0 g1 g2 g3 gf gl B3
  go_wp2
  go_ret
  exact ⟨rfl, B4.out⟩
end Go.Proofs.YtkgihmhehkaocaaGreat

/- Which fields are long, and the answers of Check, for any fields.
Conditions: those written at each theorem. -/
namespace Go.Proofs.YtkgihmhehkaocaaGreat
set_option linter.unusedVariables false
set_option linter.unusedSimpArgs false
set_option maxRecDepth 1000000
open Go.RowKit
open Um Tm

set_option maxHeartbeats 800000 in
theorem long4_any (a b c : Int) (ao : Option Addr) (cap : Nat) (L : List Q) (d : Bool) (w : World) (h : (200 < L.length ∧ d = true) ∨ (L.length ≤ 200 ∧ d = false)) : Calls Tryz.prog 6 #[.agg #[.int .i64 a, .int .i64 b, .int .i64 c, .slice ao L.length cap]] w fun e w' => e = .returned (.bool d) ∧ Below w.heap.size w w' := by
  rcases h with ⟨h, rfl⟩ | ⟨h, rfl⟩
  · have h1 : (200 : Int) < (L.length : Int) := by omega
    clear h
    go_enter Tryz.func6, Tryz.ntmps6
    go_wp2
    go_ret
    exact ⟨rfl, ba1⟩
  · have h1 : ¬ (200 : Int) < (L.length : Int) := by omega
    clear h
    go_enter Tryz.func6, Tryz.ntmps6
    go_wp2
    go_ret
    exact ⟨rfl, ba1⟩
theorem prR_ex (a b c : Int) (L : List Q) (a' b' c' : Int) (M : List Q) : ∃ ms ns r, prR a b c L ms a' b' c' M ns r := by
  obtain ⟨r1, h1⟩ := fldR_ex a b c L
  obtain ⟨r2, h2⟩ := fldR_ex a' b' c' M
  obtain ⟨ms, q1, hq1⟩ := smR_ex L
  obtain ⟨ns, q2, hq2⟩ := smR_ex M
  by_cases e1 : r1 = 0
  · subst e1
    by_cases e2 : r2 = 0
    · subst e2
      exact ⟨ms, ns, _, .inr (.inr ⟨h1, h2, q1, q2, hq1, hq2, rfl⟩)⟩
    · exact ⟨ms, ns, r2, .inr (.inl ⟨h1, h2, e2⟩)⟩
  · exact ⟨ms, ns, r1, .inl ⟨h1, e1⟩⟩
theorem prR_ok {a b c : Int} {L : List Q} {ms : List Int} {a' b' c' : Int} {M : List Q} {ns : List Int} (h : prR a b c L ms a' b' c' M ns 0) : fldR a b c L 0 ∧ fldR a' b' c' M 0 ∧ smR L ms true ∧ smR M ns true := by
  rcases h with ⟨_, h⟩ | ⟨_, _, h⟩ | ⟨h1, h2, q1, q2, h3, h4, h5⟩
  · exact absurd rfl h
  · exact absurd rfl h
  · by_cases hq : q1 = true ∧ q2 = true
    · obtain ⟨rfl, rfl⟩ := hq
      exact ⟨h1, h2, h3, h4⟩
    · rw [if_neg hq] at h5
      exact absurd h5 (by decide)
theorem liesO_some {w : World} {ao : Option Addr} {L : List Q} (h : LiesO w ao L) (hp : 0 < L.length) : ∃ b f, ao = some ⟨b, f, none⟩ ∧ Lies w b f L := by
  rcases h with h | h
  · rw [h] at hp; exact absurd hp (by simp)
  · exact h
end Go.Proofs.YtkgihmhehkaocaaGreat
