/- Products of two units in lowest terms, without a limit, as the document's answers make them.
Conditions: the bounds written at each theorem. -/
import Derived.Test.YtpfhjdmgkckjfaaGreatDoorAQuatB
import Derived.Test.YtpfhjdmgkckjfaaGreatDoorAQuatA
namespace Go.Proofs.YtpfhjdmgkckjfaaGreatDoor
set_option linter.unusedVariables false
set_option linter.unusedSimpArgs false
set_option maxRecDepth 1000000
open Go.RowKit
open Um

set_option maxHeartbeats 800000 in
theorem gcd4_any (m n : Int) (w : World) (hm : -4611686018427387904 ≤ m ∧ m ≤ 4611686018427387904) (hn : -4611686018427387904 ≤ n ∧ n ≤ 4611686018427387904) :
    Calls Tryz.prog 112 #[.int .i64 m, .int .i64 n] w fun e w' => e = .returned (.int .i64 (gc m n)) ∧ Below w.heap.size w w' := by
  obtain ⟨hm1, hm2⟩ := hm
  obtain ⟨hn1, hn2⟩ := hn
  have em : IntKind.i64.wrap (-m) = -m := IntWalk.i64_in _ (by omega)
  have en : IntKind.i64.wrap (-n) = -n := IntWalk.i64_in _ (by omega)
  by_cases a : m < -m
  all_goals by_cases b : n < -n
  all_goals
    go_enter Tryz.func112, Tryz.ntmps112
    go_wp2
    go_loopw [0, 1, 5] (fun p q _ wr => ∃ x y : Int, p = .int .i64 x ∧ q = .int .i64 y ∧ 0 ≤ x ∧ x ≤ 4611686018427387904 ∧ 0 ≤ y ∧ y ≤ 4611686018427387904 ∧ gc x y = gc m n ∧ Below w.heap.size w wr) (fun _ q _ _ => (intOf q).natAbs)
    case atStart => 
      exact ⟨_, _, rfl, rfl, by omega, by omega, by omega, by omega, by simp [gc], Below.refl _ _⟩
    case round =>
      obtain ⟨x, y, rfl, rfl, hx1, hx2, hy1, hy2, hg, hb⟩ := hrel
      have HG := Lib.hid hg
      clear hg a b hm1 hm2 hn1 hn2 em en
      by_cases h0 : y = 0
      · subst h0
        go_wp2
        go_ret
        exact ⟨by have := HG.out; rw [gc_zero] at this; rw [← this]; refine congrArg Ending.returned (congrArg (Value.int .i64) ?_); omega, hb⟩
      · have h0' : (y != 0) = true := by simpa using h0
        have h1' : (y == 0) = false := by simpa using h0
        have h1 : 0 < y := by omega
        go_wp2
        have ht := tmod_small x y h0
        rw [Int.tmod_eq_emod_of_nonneg hx1] at ht
        have q0 := Int.emod_nonneg x h0
        have q1 := Int.emod_lt_of_pos x h1
        exact ⟨⟨y, x % y, rfl, rfl, by omega, by omega, by omega, by omega, by rw [gc_step' x y hx1]; exact HG.out, hb⟩, by simpa [intOf] using ht⟩
theorem g_eq4 (x : Q) : (g x : Int) = gc x.n (gc (gc x.a x.b) (gc x.c x.d)) := by
  simp only [gc, g, Int.natAbs_natCast]
  simp only [Nat.gcd_comm, Nat.gcd_left_comm, Nat.gcd_assoc]
theorem gc_fit2 (m n : Int) (hm : -4611686018427387904 ≤ m ∧ m ≤ 4611686018427387904) (hn : -4611686018427387904 ≤ n ∧ n ≤ 4611686018427387904) : -4611686018427387904 ≤ gc m n ∧ gc m n ≤ 4611686018427387904 := by
  have h0 := gc_nonneg m n
  by_cases h : m = 0
  · subst h
    have : gc 0 n = n.natAbs := by simp [gc]
    omega
  · have := gc_dvd_left m n h
    omega
set_option maxHeartbeats 1600000 in
theorem lowest4_any (x : Q) (w : World) (hx : In x 4611686018427387904) : Calls Tryz.prog 89 #[.agg #[.int .i64 x.a, .int .i64 x.b, .int .i64 x.c, .int .i64 x.d, .int .i64 x.n]] w fun e w' => e = .returned (.agg #[.int .i64 (low x).a, .int .i64 (low x).b, .int .i64 (low x).c, .int .i64 (low x).d, .int .i64 (low x).n]) ∧ Below w.heap.size w w' := by
  have hx' := hx
  have hg := g_pos x hx.n.1
  obtain ⟨ha, hb, hc, hd, hn1, hn2⟩ := hx
  have f1 := gc_fit2 _ _ ha hb
  have f2 := gc_fit2 _ _ hc hd
  have f3 := gc_fit2 _ _ f1 f2
  have c1 := fun W : World => gcd4_any _ _ W ha hb
  have c2 := fun W : World => gcd4_any _ _ W hc hd
  have c3 := fun W : World => gcd4_any _ _ W f1 f2
  have c4 : ∀ W : World, Calls Tryz.prog 112 #[.int .i64 x.n, .int .i64 (gc (gc x.a x.b) (gc x.c x.d))] W fun e w' => e = .returned (.int .i64 (g x)) ∧ Below W.heap.size W w' := fun W => by
    rw [g_eq4]
    exact gcd4_any _ _ W (by omega) f3
  have hgn : ¬ g x = 0 := by omega
  have hg1 : (1 : Int) ≤ (g x : Int) := by omega
  have hg0 : ((g x : Int) == 0) = false := by simp; omega
  obtain ⟨wa, wb, wc, wd, wn⟩ := low_wraps x hx'
  have kc := @Tail.cell_re
  clear f1 f2 f3 ha hb hc hd hn1 hn2 hg hx'
  go_enter Tryz.func89, Tryz.ntmps89
  go_wp2
  refine Tail.region_below (by kernel_rfl) (by kernel_rfl) ?_
  repeat (go_big_quiet_step (first | (with_reducible exact Calls.regrown_of (c1 _)) | (with_reducible exact Calls.regrown_of (c2 _)) | (with_reducible exact Calls.regrown_of (c3 _)) | (with_reducible exact Calls.regrown_of (c4 _))))
  refine wpQuiet_nil ?_
  intro w1 hw1
  have hc := Tail.cells hw1
  have hz1 := Nat.lt_of_lt_of_le (n := w.heap.size) (by simp <;> omega) hw1.size
  have hz2 := Nat.lt_of_lt_of_le (n := w.heap.size + 1) (by simp <;> omega) hw1.size
  clear c1 c2 c3 c4
  go_wp2_with (fail)
  refine Tail.region_tail_below 21 (by kernel_rfl) (by kernel_rfl) ?_
  simp only [List.take_succ_cons, List.take_zero, List.drop_succ_cons, List.drop_zero]
  repeat (go_big_quiet_step (fail))
  refine wpQuiet_nil ?_
  intro w2 hw2
  have hc2 := Tail.cells hw2
  go_wp2
  refine bodyPost_ret (v := .agg #[.int .i64 (low x).a, .int .i64 (low x).b, .int .i64 (low x).c, .int .i64 (low x).d, .int .i64 (low x).n]) ?_ rfl ⟨rfl, ?_⟩
  · simp [results, Tryz.results89, go_sem, hc, hc2, hz2]
  · repeat (first | (with_reducible exact Below.refl _ _) | (with_reducible refine Below.setCell ?_ ?_ _) | (with_reducible refine Below.drew ?_) | (with_reducible refine Below.alloc ?_ ?_ _) | (with_reducible refine Below.trans ?_ (Below.mono hw2 ?_)) | (with_reducible refine Below.trans ?_ (Below.mono hw1 ?_)) | (with_reducible exact hw2.size) | (with_reducible exact hw1.size) | omega | (simp <;> omega) | (simp <;> (have s := hw2.size; omega)) | (simp <;> (have s := hw1.size; omega)) | (have s0 := hw2.size; (try simp at s0); have s1 := hw1.size; (try simp at s1); (try simp); omega))
theorem U_in {x : Q} (h : U x) {m : Int} (hm : x.n ≤ m) : In x m := by
  have hp := h.pos
  obtain ⟨p1, p2, p3, p4, p5, p6, p7, p8⟩ := part_le x h
  exact ⟨by omega, by omega, by omega, by omega, by omega⟩
theorem small2_U {x y : Q} (hx : U x) (hy : U y) (hn : x.n ≤ 1048576) (hm : y.n ≤ 1048576) : Small2 x y := by
  have i := U_in hx hn
  have j := U_in hy hm
  obtain ⟨xa, xb, xc, xd, xn1, xn2⟩ := i
  obtain ⟨ya, yb, yc, yd, yn1, yn2⟩ := j
  refine Small2.of (X := 1048576) (Y := 1048576) (by decide) (by decide) (fun p hp => ?_) (fun q hq => ?_)
  · rcases hp with rfl | rfl | rfl | rfl | rfl <;> omega
  · rcases hq with rfl | rfl | rfl | rfl | rfl <;> omega
set_option maxRecDepth 100000 in
set_option maxHeartbeats 1600000 in
theorem raw4_any (x y : Q) (w : World) (h : Small2 x y) : Calls Tryz.prog 90 #[.agg #[.int .i64 x.a, .int .i64 x.b, .int .i64 x.c, .int .i64 x.d, .int .i64 x.n], .agg #[.int .i64 y.a, .int .i64 y.b, .int .i64 y.c, .int .i64 y.d, .int .i64 y.n]] w fun e w' => e = .returned (.agg #[.int .i64 (mul x y).a, .int .i64 (mul x y).b, .int .i64 (mul x y).c, .int .i64 (mul x y).d, .int .i64 (mul x y).n]) ∧ Below w.heap.size w w' := by
  obtain ⟨aa1, aa2⟩ := h.h x.a y.a (by simp) (by simp)
  obtain ⟨ab1, ab2⟩ := h.h x.a y.b (by simp) (by simp)
  obtain ⟨ac1, ac2⟩ := h.h x.a y.c (by simp) (by simp)
  obtain ⟨ad1, ad2⟩ := h.h x.a y.d (by simp) (by simp)
  obtain ⟨ba1, ba2⟩ := h.h x.b y.a (by simp) (by simp)
  obtain ⟨bb1, bb2⟩ := h.h x.b y.b (by simp) (by simp)
  obtain ⟨bc1, bc2⟩ := h.h x.b y.c (by simp) (by simp)
  obtain ⟨bd1, bd2⟩ := h.h x.b y.d (by simp) (by simp)
  obtain ⟨ca1, ca2⟩ := h.h x.c y.a (by simp) (by simp)
  obtain ⟨cb1, cb2⟩ := h.h x.c y.b (by simp) (by simp)
  obtain ⟨cc1, cc2⟩ := h.h x.c y.c (by simp) (by simp)
  obtain ⟨cd1, cd2⟩ := h.h x.c y.d (by simp) (by simp)
  obtain ⟨da1, da2⟩ := h.h x.d y.a (by simp) (by simp)
  obtain ⟨db1, db2⟩ := h.h x.d y.b (by simp) (by simp)
  obtain ⟨dc1, dc2⟩ := h.h x.d y.c (by simp) (by simp)
  obtain ⟨dd1, dd2⟩ := h.h x.d y.d (by simp) (by simp)
  obtain ⟨nn1, nn2⟩ := h.h x.n y.n (by simp) (by simp)
  clear h
  go_enter Tryz.func90, Tryz.ntmps90
  go_wp2
  refine bodyPost_ret (v := .agg #[.int .i64 (mul x y).a, .int .i64 (mul x y).b, .int .i64 (mul x y).c, .int .i64 (mul x y).d, .int .i64 (mul x y).n]) ?_ rfl ⟨rfl, ?_⟩
  · simp [results, Tryz.results90, go_sem, mul]
  · repeat (first | exact Below.refl _ _ | refine Below.setCell ?_ (by simp) _ | refine Below.alloc ?_ (by simp; try omega) _)
set_option maxHeartbeats 800000 in
theorem mul4_any (x y : Q) (w : World) (hx : U x) (hy : U y) (hn : x.n ≤ 1048576) (hm : y.n ≤ 1048576) : Calls Tryz.prog 62 #[.agg #[.int .i64 x.a, .int .i64 x.b, .int .i64 x.c, .int .i64 x.d, .int .i64 x.n], .agg #[.int .i64 y.a, .int .i64 y.b, .int .i64 y.c, .int .i64 y.d, .int .i64 y.n]] w fun e w' => e = .returned (.agg #[.int .i64 (low (mul x y)).a, .int .i64 (low (mul x y)).b, .int .i64 (low (mul x y)).c, .int .i64 (low (mul x y)).d, .int .i64 (low (mul x y)).n]) ∧ Below w.heap.size w w' := by
  have c1 := fun W : World => raw4_any x y W (small2_U hx hy hn hm)
  have hxp := hx.pos
  have hyp := hy.pos
  have hp : x.n * y.n ≤ 1048576 * 1048576 := Int.mul_le_mul hn hm (by omega) (by decide)
  have c2 := fun W : World => lowest4_any (mul x y) W (U_in (mul_len x y hx hy) (show x.n * y.n ≤ 4611686018427387904 by omega))
  clear hx hy hn hm hxp hyp hp
  generalize mul x y = z at *
  go_enter Tryz.func62, Tryz.ntmps62
  go_wp2_with (fail)
  refine (c1 _).mono ?_
  rintro e w1 ⟨rfl, hw1⟩
  have hc1 := Tail.cells hw1
  have zw10 := Nat.lt_of_lt_of_le (n := w.heap.size) (by simp <;> omega) hw1.size; have zw11 := Nat.lt_of_lt_of_le (n := w.heap.size + 1) (by simp <;> omega) hw1.size; have zw12 := Nat.lt_of_lt_of_le (n := w.heap.size + 2) (by simp <;> omega) hw1.size
  go_wp2_with (fail)
  refine (c2 _).mono ?_
  rintro e w2 ⟨rfl, hw2⟩
  have hc2 := Tail.cells hw2
  have z2 := Nat.lt_of_lt_of_le zw12 hw2.size
  go_wp2
  refine bodyPost_ret (v := .agg #[.int .i64 (low z).a, .int .i64 (low z).b, .int .i64 (low z).c, .int .i64 (low z).d, .int .i64 (low z).n]) ?_ rfl ⟨rfl, ?_⟩
  · simp [results, Tryz.results62, go_sem, hc1, hc2, zw10, zw11, zw12, z2]
  · repeat (first | (with_reducible exact Below.refl _ _) | (with_reducible refine Below.setCell ?_ ?_ _) | (with_reducible refine Below.drew ?_) | (with_reducible refine Below.alloc ?_ ?_ _) | (with_reducible refine Below.trans ?_ (Below.mono hw2 ?_)) | (with_reducible refine Below.trans ?_ (Below.mono hw1 ?_)) | (with_reducible exact hw2.size) | (with_reducible exact hw1.size) | omega | (simp <;> omega) | (simp <;> (have s := hw2.size; omega)) | (simp <;> (have s := hw1.size; omega)) | (have s0 := hw2.size; (try simp at s0); have s1 := hw1.size; (try simp at s1); (try simp); omega))
end Go.Proofs.YtpfhjdmgkckjfaaGreatDoor
