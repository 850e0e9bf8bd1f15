/- The greatest common divisor of the five parts, lowest terms, and rational numbers, as the program and the document's answers make them.
Conditions: the bounds written at each theorem. -/
import Derived.Test.YtdplojcbfdbgnaaLeaf
import Derived.Test.YtdplojcbfdbgnaaGcd
namespace Go.Proofs.Ytdplojcbfdbgnaa
set_option linter.unusedVariables false
set_option linter.unusedSimpArgs false
open Go.RowKit
open Um

theorem gc_dvd_left (m n : Int) (hm : m ≠ 0) : gc m n ≤ m.natAbs := by
  unfold gc
  have := Nat.gcd_le_left n.natAbs (show 0 < m.natAbs by omega)
  omega
theorem gc_nonneg (m n : Int) : 0 ≤ gc m n := by unfold gc; omega
theorem gc_gc (m n k : Int) : gc (gc m n) k = (Nat.gcd (Nat.gcd m.natAbs n.natAbs) k.natAbs : Int) := by simp [gc]
theorem g_eq (x : Q) : (g x : Int) = gc (gc (gc (gc x.a x.b) x.c) x.d) x.n := by simp [gc, g]
theorem g_eq' (x : Q) : (g x : Int) = gc (gc (gc (gc x.n x.a) x.b) x.c) x.d := by
  simp only [gc, g, Int.natAbs_natCast]
  simp only [Nat.gcd_comm, Nat.gcd_left_comm]
def gAt (x : Q) : Nat → Int
  | 0 => x.n
  | 1 => gc x.n x.a
  | 2 => gc (gc x.n x.a) x.b
  | 3 => gc (gc (gc x.n x.a) x.b) x.c
  | _ => gc (gc (gc (gc x.n x.a) x.b) x.c) x.d
theorem gAt_range (x : Q) (k : Nat) (hn : 0 < x.n) : 0 ≤ gAt x k ∧ gAt x k ≤ x.n := by
  have key : ∀ p q : Int, 0 < p → 0 < gc p q ∧ gc p q ≤ p := by
    intro p q hp
    have h1 := gc_dvd_left p q (by omega)
    have h2 := gc_nonneg p q
    have h3 : gc p q ≠ 0 := by
      unfold gc
      have := Nat.gcd_pos_of_pos_left q.natAbs (show 0 < p.natAbs by omega)
      omega
    omega
  have k1 := key x.n x.a hn
  have k2 := key (gc x.n x.a) x.b k1.1
  have k3 := key (gc (gc x.n x.a) x.b) x.c k2.1
  have k4 := key (gc (gc (gc x.n x.a) x.b) x.c) x.d k3.1
  unfold gAt
  split <;> omega

/-- each part lies within a bound -/
structure In (x : Q) (m : Int) : Prop where
  a : -m ≤ x.a ∧ x.a ≤ m
  b : -m ≤ x.b ∧ x.b ≤ m
  c : -m ≤ x.c ∧ x.c ≤ m
  d : -m ≤ x.d ∧ x.d ≤ m
  n : 0 < x.n ∧ x.n ≤ m

set_option maxHeartbeats 800000 in
theorem common_any (x : Q) (w : World) (hx : In x 4611686018427387904) :
    Calls Try.prog 87 #[.agg #[.int .i64 x.b, .int .i64 x.c, .int .i64 x.d, .int .i64 x.a, .int .i64 x.n]] w fun e w' => e = .returned (.int .i64 (g x)) ∧ Below w.heap.size w w' := by
  obtain ⟨⟨ha1, ha2⟩, ⟨hb1, hb2⟩, ⟨hc1, hc2⟩, ⟨hd1, hd2⟩, hn1, hn2⟩ := hx
  have i0 : ∀ w, (Instr.index 133 (.agg #[.int .i64 x.a, .int .i64 x.b, .int .i64 x.c, .int .i64 x.d]) (.int .i64 0)).run Try.prog w = .ok (.int .i64 x.a) w := fun _ => by kernel_rfl
  have i1 : ∀ w, (Instr.index 133 (.agg #[.int .i64 x.a, .int .i64 x.b, .int .i64 x.c, .int .i64 x.d]) (.int .i64 1)).run Try.prog w = .ok (.int .i64 x.b) w := fun _ => by kernel_rfl
  have i2 : ∀ w, (Instr.index 133 (.agg #[.int .i64 x.a, .int .i64 x.b, .int .i64 x.c, .int .i64 x.d]) (.int .i64 2)).run Try.prog w = .ok (.int .i64 x.c) w := fun _ => by kernel_rfl
  have i3 : ∀ w, (Instr.index 133 (.agg #[.int .i64 x.a, .int .i64 x.b, .int .i64 x.c, .int .i64 x.d]) (.int .i64 3)).run Try.prog w = .ok (.int .i64 x.d) w := fun _ => by kernel_rfl
  go_enter Try.func87, Try.ntmps87
  go_wp2
  go_loopw [3, 5, 20] (fun p _ q wr => ∃ k : Nat, k ≤ 4 ∧ q = .int .i64 k ∧ p = .int .i64 (gAt x k) ∧ Below w.heap.size w wr) (fun _ _ q _ => 4 - (intOf q).toNat)
  case atStart => exact ⟨0, by omega, rfl, rfl, (Below.refl _ _).alloc (Nat.le_refl _) _⟩
  case round =>
    obtain ⟨k, hk, rfl, rfl, hb⟩ := hrel
    have hr := gAt_range x k (by omega)
    obtain ⟨hr1, hr2⟩ := hr
    have : k = 0 ∨ k = 1 ∨ k = 2 ∨ k = 3 ∨ k = 4 := by omega
    rcases this with rfl | rfl | rfl | rfl | rfl
    · go_wp2_with (go_at_call 113; refine (divisor_any _ _ _ (by omega) (by omega)).mono ?_; rintro e w' ⟨rfl, hb'⟩)
      exact ⟨⟨1, by omega, rfl, rfl, hb.trans (hb'.mono hb.size)⟩, by simp [intOf]⟩
    · go_wp2_with (go_at_call 113; refine (divisor_any _ _ _ (by omega) (by omega)).mono ?_; rintro e w' ⟨rfl, hb'⟩)
      exact ⟨⟨2, by omega, rfl, rfl, hb.trans (hb'.mono hb.size)⟩, by simp [intOf]⟩
    · go_wp2_with (go_at_call 113; refine (divisor_any _ _ _ (by omega) (by omega)).mono ?_; rintro e w' ⟨rfl, hb'⟩)
      exact ⟨⟨3, by omega, rfl, rfl, hb.trans (hb'.mono hb.size)⟩, by simp [intOf]⟩
    · go_wp2_with (go_at_call 113; refine (divisor_any _ _ _ (by omega) (by omega)).mono ?_; rintro e w' ⟨rfl, hb'⟩)
      exact ⟨⟨4, by omega, rfl, rfl, hb.trans (hb'.mono hb.size)⟩, by simp [intOf]⟩
    · go_wp2
      go_ret
      exact ⟨by rw [g_eq']; rfl, hb⟩

theorem gc_fit (m n : Int) (hm : -9223372036854775807 ≤ m ∧ m ≤ 9223372036854775807) (hn : -9223372036854775807 ≤ n ∧ n ≤ 9223372036854775807) : -9223372036854775807 ≤ gc m n ∧ gc m n ≤ 9223372036854775807 := by
  have h0 := gc_nonneg m n
  by_cases h : m = 0
  · subst h
    have : gc 0 n = n.natAbs := by simp [gc]
    omega
  · have := gc_dvd_left m n h
    omega

set_option maxHeartbeats 800000 in
theorem refCommon_any (x : Q) (w : World) (ha : -9223372036854775807 ≤ x.a ∧ x.a ≤ 9223372036854775807) (hb : -9223372036854775807 ≤ x.b ∧ x.b ≤ 9223372036854775807) (hc : -9223372036854775807 ≤ x.c ∧ x.c ≤ 9223372036854775807) (hd : -9223372036854775807 ≤ x.d ∧ x.d ≤ 9223372036854775807) (hn : -9223372036854775807 ≤ x.n ∧ x.n ≤ 9223372036854775807) :
    Calls Try.prog 146 #[.agg #[.int .i64 x.a, .int .i64 x.b, .int .i64 x.c, .int .i64 x.d, .int .i64 x.n]] w fun e w' => e = .returned (.int .i64 (g x)) ∧ Below w.heap.size w w' := by
  have f1 := gc_fit _ _ ha hb
  have f2 := gc_fit _ _ f1 hc
  have f3 := gc_fit _ _ f2 hd
  have c1 : ∀ W : World, Calls Try.prog 153 #[.int .i64 x.a, .int .i64 x.b] W fun e w' => e = .returned (.int .i64 (gc x.a x.b)) ∧ Below W.heap.size W w' := fun W => gcd_any _ _ _ ha hb
  have c2 : ∀ W : World, Calls Try.prog 153 #[.int .i64 (gc x.a x.b), .int .i64 x.c] W fun e w' => e = .returned (.int .i64 (gc (gc x.a x.b) x.c)) ∧ Below W.heap.size W w' := fun W => gcd_any _ _ _ f1 hc
  have c3 : ∀ W : World, Calls Try.prog 153 #[.int .i64 (gc (gc x.a x.b) x.c), .int .i64 x.d] W fun e w' => e = .returned (.int .i64 (gc (gc (gc x.a x.b) x.c) x.d)) ∧ Below W.heap.size W w' := fun W => gcd_any _ _ _ f2 hd
  have c4 : ∀ W : World, Calls Try.prog 153 #[.int .i64 (gc (gc (gc x.a x.b) x.c) x.d), .int .i64 x.n] W fun e w' => e = .returned (.int .i64 (gc (gc (gc (gc x.a x.b) x.c) x.d) x.n)) ∧ Below W.heap.size W w' := fun W => gcd_any _ _ _ f3 hn
  clear f1 f2 f3 ha hb hc hd hn
  rw [g_eq]
  have kc := @Tail.cell_re
  go_enter Try.func146, Try.ntmps146
  go_wp2
  refine Tail.region_below (by kernel_rfl) (by kernel_rfl) ?_
  repeat (quiet_step (first | (with_reducible exact Calls.regrown_of (c1 _)) | (with_reducible exact Calls.regrown_of (c2 _)) | (with_reducible exact Calls.regrown_of (c3 _)) | (with_reducible exact Calls.regrown_of (c4 _))))
  refine wpQuiet_nil ?_
  intro w1 hb1
  go_wp2
  go_ret
  exact ⟨rfl, ((Below.refl _ _).alloc (Nat.le_refl _) _).trans (hb1.mono (by simp))⟩

theorem low_parts (x : Q) : x.a.tdiv (g x) = (low x).a ∧ x.b.tdiv (g x) = (low x).b ∧ x.c.tdiv (g x) = (low x).c ∧ x.d.tdiv (g x) = (low x).d := by
  have h := g_dvd x
  exact ⟨Int.tdiv_eq_ediv_of_dvd h.1, Int.tdiv_eq_ediv_of_dvd h.2.1, Int.tdiv_eq_ediv_of_dvd h.2.2.1, Int.tdiv_eq_ediv_of_dvd h.2.2.2.1⟩
theorem low_n (x : Q) : x.n / (g x : Int) = (low x).n := rfl

theorem In.le {x : Q} {m : Int} (h : In x m) {k : Int} (hk : m ≤ k) : In x k :=
  ⟨⟨by have := h.a; omega, by have := h.a; omega⟩, ⟨by have := h.b; omega, by have := h.b; omega⟩, ⟨by have := h.c; omega, by have := h.c; omega⟩, ⟨by have := h.d; omega, by have := h.d; omega⟩, ⟨h.n.1, by have := h.n; omega⟩⟩

set_option maxHeartbeats 800000 in
theorem unit_large (x : Q) (w : World) (hx : In x 4611686018427387904) (hl : 1048576 < (low x).n) :
    Calls Try.prog 54 #[.agg #[.int .i64 x.b, .int .i64 x.c, .int .i64 x.d, .int .i64 x.a, .int .i64 x.n]] w fun e w' => e = .returned (.tuple #[.agg #[.int .i64 zero.a, .int .i64 zero.b, .int .i64 zero.c, .int .i64 zero.d, .int .i64 zero.n], .int .i64 3]) ∧ Below w.heap.size w w' := by
  have hx' := hx
  have hg := g_pos x hx.n.1
  obtain ⟨⟨ha1, ha2⟩, ⟨hb1, hb2⟩, ⟨hc1, hc2⟩, ⟨hd1, hd2⟩, hn1, hn2⟩ := hx
  rw [← low_n] at hl
  have hg1 : (1 : Int) ≤ (g x : Int) := by omega
  go_enter Try.func54, Try.ntmps54
  go_wp2_with (go_at_call 87; refine (common_any _ _ hx').mono ?_; rintro e w1 ⟨rfl, hw1⟩; have hc := Tail.cells hw1; have hz := hw1.size)
  refine bodyPost_ret (v := .tuple #[.agg #[.int .i64 zero.a, .int .i64 zero.b, .int .i64 zero.c, .int .i64 zero.d, .int .i64 zero.n], .int .i64 3]) ?_ rfl ⟨rfl, ?_⟩
  · simp [results, Try.results54, go_sem, zero, hc]
  · repeat (first | exact Below.refl _ _ | refine Below.setCell ?_ (by simp) _ | refine Below.trans ?_ (Below.mono hw1 (by simp; try omega)) | refine Below.alloc ?_ (by simp) _)

theorem low_range (x : Q) : (-(x.a.natAbs : Int) ≤ (low x).a ∧ (low x).a ≤ x.a.natAbs) ∧ (-(x.b.natAbs : Int) ≤ (low x).b ∧ (low x).b ≤ x.b.natAbs) ∧ (-(x.c.natAbs : Int) ≤ (low x).c ∧ (low x).c ≤ x.c.natAbs) ∧ (-(x.d.natAbs : Int) ≤ (low x).d ∧ (low x).d ≤ x.d.natAbs) := by
  have hp := low_parts x
  have key : ∀ p : Int, -(p.natAbs : Int) ≤ p.tdiv (g x) ∧ p.tdiv (g x) ≤ p.natAbs := by
    intro p
    have h1 : (p.tdiv (g x)).natAbs ≤ p.natAbs := by rw [Int.natAbs_tdiv]; exact Nat.div_le_self _ _
    omega
  rw [← hp.1, ← hp.2.1, ← hp.2.2.1, ← hp.2.2.2]
  exact ⟨key _, key _, key _, key _⟩
theorem low_in (x : Q) {m : Int} (h : In x m) : In (low x) m := by
  have hr := low_range x
  have hn := low_pos x h.n.1
  have hl := low_le x h.n.1
  have ha := h.a; have hb := h.b; have hc := h.c; have hd := h.d; have hm := h.n
  exact ⟨by omega, by omega, by omega, by omega, by omega⟩
theorem low_wraps (x : Q) (h : In x 4611686018427387904) : IntKind.i64.wrap (x.a.tdiv (g x)) = (low x).a ∧ IntKind.i64.wrap (x.b.tdiv (g x)) = (low x).b ∧ IntKind.i64.wrap (x.c.tdiv (g x)) = (low x).c ∧ IntKind.i64.wrap (x.d.tdiv (g x)) = (low x).d ∧ IntKind.i64.wrap (x.n.tdiv (g x)) = (low x).n := by
  have hl := low_in x h
  have hp := low_parts x
  have hn : x.n.tdiv (g x) = (low x).n := Int.tdiv_eq_ediv_of_dvd (g_dvd x).2.2.2.2
  obtain ⟨⟨ha1, ha2⟩, ⟨hb1, hb2⟩, ⟨hc1, hc2⟩, ⟨hd1, hd2⟩, hn1, hn2⟩ := hl
  rw [hp.1, hp.2.1, hp.2.2.1, hp.2.2.2, hn]
  exact ⟨IntWalk.i64_in _ (by omega), IntWalk.i64_in _ (by omega), IntWalk.i64_in _ (by omega), IntWalk.i64_in _ (by omega), IntWalk.i64_in _ (by omega)⟩

set_option maxHeartbeats 800000 in
theorem unit_ok (x : Q) (w : World) (hx : In x 4611686018427387904) (hl : (low x).n ≤ 1048576) :
    Calls Try.prog 54 #[.agg #[.int .i64 x.b, .int .i64 x.c, .int .i64 x.d, .int .i64 x.a, .int .i64 x.n]] w fun e w' => e = .returned (.tuple #[.agg #[.int .i64 (low x).a, .int .i64 (low x).b, .int .i64 (low x).c, .int .i64 (low x).d, .int .i64 (low x).n], .int .i64 0]) ∧ Below w.heap.size w w' := by
  have hx' := hx
  have hg := g_pos x hx.n.1
  obtain ⟨⟨ha1, ha2⟩, ⟨hb1, hb2⟩, ⟨hc1, hc2⟩, ⟨hd1, hd2⟩, hn1, hn2⟩ := hx
  have hln := hl
  rw [← low_n] at hl
  have hl' : ¬ 1048576 < x.n / (g x : Int) := by omega
  have hg1 : (1 : Int) ≤ (g x : Int) := by omega
  have hg0 : ((g x : Int) == 0) = false := by simp; omega
  have hgn : ¬ g x = 0 := by omega
  obtain ⟨wa, wb, wc, wd, wn⟩ := low_wraps x hx'
  have kc := @Tail.cell_re
  go_enter Try.func54, Try.ntmps54
  go_wp2_with (go_at_call 87; refine (common_any _ _ hx').mono ?_; rintro e w1 ⟨rfl, hw1⟩; have hc := Tail.cells hw1; have hz1 := Nat.lt_of_lt_of_le (n := w.heap.size) (by simp <;> omega) hw1.size; have hz2 := Nat.lt_of_lt_of_le (n := w.heap.size + 1) (by simp <;> omega) hw1.size)
  refine Tail.region_tail_below 24 (by kernel_rfl) (by kernel_rfl) ?_
  simp only [List.take_succ_cons, List.take_zero, List.drop_succ_cons, List.drop_zero]
  repeat (quiet_step (fail))
  refine wpQuiet_nil ?_
  intro w2 hw2
  have hc2 := Tail.cells hw2
  go_wp2
  refine bodyPost_ret (v := .tuple #[.agg #[.int .i64 (low x).a, .int .i64 (low x).b, .int .i64 (low x).c, .int .i64 (low x).d, .int .i64 (low x).n], .int .i64 0]) ?_ rfl ⟨rfl, ?_⟩
  · simp [results, Try.results54, go_sem, hc, hc2, hz2]
  · repeat (first | exact Below.refl _ _ | refine Below.setCell ?_ (by simp) _ | refine Below.trans ?_ (Below.mono hw2 (by omega)) | refine Below.trans ?_ (Below.mono hw1 (by simp; try omega)) | refine Below.alloc ?_ (by simp) _)

end Go.Proofs.Ytdplojcbfdbgnaa
