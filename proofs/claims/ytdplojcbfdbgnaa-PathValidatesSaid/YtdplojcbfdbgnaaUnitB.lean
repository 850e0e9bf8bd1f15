/- Whether a quaternion has the length 1, and which units are valid, as the program finds it.
Conditions: the bounds written at each theorem. -/
import Derived.Test.YtdplojcbfdbgnaaIsUnit
import Derived.Test.YtdplojcbfdbgnaaRaw
import Derived.BigQuiet
namespace Go.Proofs.Ytdplojcbfdbgnaa
set_option linter.unusedVariables false
set_option linter.unusedSimpArgs false
open Go.RowKit
open Um

def uB (x : Q) : Bool := decide (x.a * x.a + (x.b * x.b + x.c * x.c + x.d * x.d) = x.n * x.n)
theorem uB_iff (x : Q) (hn : 0 < x.n) : uB x = true ↔ U x := by
  simp only [uB, decide_eq_true_eq]
  constructor
  · intro h; exact ⟨hn, by omega⟩
  · intro h; have := h.len; omega
theorem uB_false_of {x : Q} (hn : 0 < x.n) (h : ¬ (-x.n ≤ x.a ∧ x.a ≤ x.n ∧ -x.n ≤ x.b ∧ x.b ≤ x.n ∧ -x.n ≤ x.c ∧ x.c ≤ x.n ∧ -x.n ≤ x.d ∧ x.d ≤ x.n)) : uB x = false := by
  cases e : uB x
  · rfl
  · exact absurd (part_le x ((uB_iff x hn).1 e)) h
theorem inB_iff {n lo hi : Int} : inB n lo hi = true ↔ lo ≤ n ∧ n ≤ hi := by simp [inB]
theorem inB_false {n lo hi : Int} (h : inB n lo hi = false) : ¬ (lo ≤ n ∧ n ≤ hi) := fun h' => by rw [inB_iff.2 h'] at h; cases h

set_option maxHeartbeats 400000 in
theorem isUnit_any (x : Q) (w : World) (h0 : 0 < x.n) (h1 : x.n ≤ 1073741824) : Calls Try.prog 86 #[.agg #[.int .i64 x.b, .int .i64 x.c, .int .i64 x.d, .int .i64 x.a, .int .i64 x.n]] w fun e w' => e = .returned (.bool (uB x)) ∧ Below w.heap.size w w' := by
  have c1 := fun W : World => isWithin_any x.a x.n W (by omega) (by omega)
  have c2 := fun W : World => vwithin_any x x.n W (by omega) (by omega)
  have c1' : ∀ W : World, Calls Try.prog 110 #[.int .i64 x.a, .int .i64 x.n] W fun e w' => e = .returned (.bool (inB x.a (-x.n) x.n)) ∧ Below W.heap.size W w' := fun W => (c1 W).mono fun e w' ⟨he, hw⟩ => ⟨he, hw ▸ Below.refl _ _⟩
  clear c1
  have kc := @Tail.cell_re
  cases e1 : inB x.a (-x.n) x.n
  · have hr := uB_false_of h0 (fun hh => inB_false e1 ⟨hh.1, hh.2.1⟩)
    rw [hr]
    rw [e1] at c1'
    clear hr e1 c2
    go_enter Try.func86, Try.ntmps86
    go_wp2
    refine Tail.region_below (by kernel_rfl) (by kernel_rfl) ?_
    repeat (go_big_quiet_step (with_reducible exact Calls.regrown_of (c1' _)))
    refine wpQuiet_nil ?_
    intro w2 hw2
    go_wp2
    go_ret
    exact ⟨rfl, by repeat (first | (with_reducible exact Below.refl _ _) | (with_reducible refine Below.setCell ?_ ?_ _) | (with_reducible refine Below.drew ?_) | (with_reducible refine Below.alloc ?_ ?_ _) | (with_reducible refine Below.trans ?_ (Below.mono hw2 ?_)) | (with_reducible exact hw2.size) | omega | (simp <;> omega) | (simp <;> (have s := hw2.size; omega)) | (have s0 := hw2.size; (try simp at s0); (try simp); omega))⟩
  rw [e1] at c1'
  cases e2 : inB x.b (-x.n) x.n && inB x.c (-x.n) x.n && inB x.d (-x.n) x.n
  · have hr := uB_false_of h0 (fun hh => by
      rw [inB_iff.2 ⟨hh.2.2.1, hh.2.2.2.1⟩, inB_iff.2 ⟨hh.2.2.2.2.1, hh.2.2.2.2.2.1⟩, inB_iff.2 ⟨hh.2.2.2.2.2.2.1, hh.2.2.2.2.2.2.2⟩] at e2
      cases e2)
    rw [hr]
    rw [e2] at c2
    clear hr e1 e2
    go_enter Try.func86, Try.ntmps86
    go_wp2
    refine Tail.region_below (by kernel_rfl) (by kernel_rfl) ?_
    repeat (go_big_quiet_step (first | (with_reducible exact Calls.regrown_of (c1' _)) | (with_reducible exact Calls.regrown_of (c2 _))))
    refine wpQuiet_nil ?_
    intro w2 hw2
    go_wp2
    go_ret
    exact ⟨rfl, by repeat (first | (with_reducible exact Below.refl _ _) | (with_reducible refine Below.setCell ?_ ?_ _) | (with_reducible refine Below.drew ?_) | (with_reducible refine Below.alloc ?_ ?_ _) | (with_reducible refine Below.trans ?_ (Below.mono hw2 ?_)) | (with_reducible exact hw2.size) | omega | (simp <;> omega) | (simp <;> (have s := hw2.size; omega)) | (have s0 := hw2.size; (try simp at s0); (try simp); omega))⟩
  rw [e2] at c2
  simp only [Bool.and_eq_true] at e2
  have b1 := inB_iff.1 e1
  have b2 := inB_iff.1 e2.1.1
  have b3 := inB_iff.1 e2.1.2
  have b4 := inB_iff.1 e2.2
  have hs : Small2 x x := Small2.of (X := 1073741824) (Y := 1073741824) (by omega) (by omega) (by rintro p (rfl | rfl | rfl | rfl | rfl) <;> omega) (by rintro p (rfl | rfl | rfl | rfl | rfl) <;> omega)
  have c3 := fun W : World => dot_any x x W hs
  have pa := hs.h x.a x.a (by simp) (by simp)
  have pb := hs.h x.b x.b (by simp) (by simp)
  have pc := hs.h x.c x.c (by simp) (by simp)
  have pd := hs.h x.d x.d (by simp) (by simp)
  have pn := hs.h x.n x.n (by simp) (by simp)
  have wa : IntKind.i64.wrap (x.a * x.a) = x.a * x.a := IntWalk.i64_in _ (by omega)
  have wn : IntKind.i64.wrap (x.n * x.n) = x.n * x.n := IntWalk.i64_in _ (by omega)
  have ws : IntKind.i64.wrap (x.a * x.a + (x.b * x.b + x.c * x.c + x.d * x.d)) = x.a * x.a + (x.b * x.b + x.c * x.c + x.d * x.d) := IntWalk.i64_in _ (by omega)
  clear e1 e2 hs pa pb pc pd pn b1 b2 b3 b4 h0 h1
  go_enter Try.func86, Try.ntmps86
  go_wp2
  refine Tail.region_below (by kernel_rfl) (by kernel_rfl) ?_
  repeat (go_big_quiet_step (first | (with_reducible exact Calls.regrown_of (c1' _)) | (with_reducible exact Calls.regrown_of (c2 _)) | (with_reducible exact Calls.regrown_of (c3 _))))
  refine wpQuiet_nil ?_
  intro w2 hw2
  go_wp2
  go_ret
  exact ⟨rfl, by repeat (first | (with_reducible exact Below.refl _ _) | (with_reducible refine Below.setCell ?_ ?_ _) | (with_reducible refine Below.drew ?_) | (with_reducible refine Below.alloc ?_ ?_ _) | (with_reducible refine Below.trans ?_ (Below.mono hw2 ?_)) | (with_reducible exact hw2.size) | omega | (simp <;> omega) | (simp <;> (have s := hw2.size; omega)) | (have s0 := hw2.size; (try simp at s0); (try simp); omega))⟩
end Go.Proofs.Ytdplojcbfdbgnaa
