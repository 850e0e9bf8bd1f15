/- Inverses, and whether a quaternion has the length 1, as the program finds it.
Conditions: the bounds written at each theorem. -/
import Derived.Test.YtpfhjdmgkckjfaaGreatDoorAQuatA
import Derived.Deep.RegionWith
import Derived.BigQuiet
namespace Go.Proofs.YtpfhjdmgkckjfaaGreatDoor
set_option linter.unusedVariables false
set_option linter.unusedSimpArgs false
open Go.RowKit
open Um

set_option maxHeartbeats 400000 in
theorem inverse_any (x : Q) (w : World) (hb : -1152921504606846976 ≤ x.b ∧ x.b ≤ 1152921504606846976) (hc : -1152921504606846976 ≤ x.c ∧ x.c ≤ 1152921504606846976) (hd : -1152921504606846976 ≤ x.d ∧ x.d ≤ 1152921504606846976) :
    Calls Tryz.prog 150 #[.agg #[.int .i64 x.b, .int .i64 x.c, .int .i64 x.d, .int .i64 x.a, .int .i64 x.n]] w fun e w' => e = .returned (.agg #[.int .i64 (bar x).b, .int .i64 (bar x).c, .int .i64 (bar x).d, .int .i64 (bar x).a, .int .i64 (bar x).n]) ∧ Below w.heap.size w w' := by
  have s := fun W : World => scaled_any x (-1) W (by omega) (by omega) (by omega)
  rw [Int.neg_one_mul, Int.neg_one_mul, Int.neg_one_mul] at s
  clear hb hc hd
  go_enter Tryz.func150, Tryz.ntmps150
  go_wp2_with (go_at_call 138; refine (s _).mono ?_; rintro e w1 ⟨rfl, hw1⟩; have hc := Tail.cells hw1; have zw10 := Nat.lt_of_lt_of_le (n := w.heap.size) (by simp <;> omega) hw1.size; have zw11 := Nat.lt_of_lt_of_le (n := w.heap.size + 1) (by simp <;> omega) hw1.size; have kw1a0 : w1.cell? ⟨w.heap.size, 0, none⟩ = some (.int .i64 x.b) := (hc.1 _ _ (by simp <;> omega)).trans (by simp [go_sem]); have kw1a1 : w1.cell? ⟨w.heap.size, 1, none⟩ = some (.int .i64 x.c) := (hc.1 _ _ (by simp <;> omega)).trans (by simp [go_sem]); have kw1a2 : w1.cell? ⟨w.heap.size, 2, none⟩ = some (.int .i64 x.d) := (hc.1 _ _ (by simp <;> omega)).trans (by simp [go_sem]); have kw1a3 : w1.cell? ⟨w.heap.size, 3, none⟩ = some (.int .i64 x.a) := (hc.1 _ _ (by simp <;> omega)).trans (by simp [go_sem]); have kw1a4 : w1.cell? ⟨w.heap.size, 4, none⟩ = some (.int .i64 x.n) := (hc.1 _ _ (by simp <;> omega)).trans (by simp [go_sem]))
  refine bodyPost_ret (v := .agg #[.int .i64 (bar x).b, .int .i64 (bar x).c, .int .i64 (bar x).d, .int .i64 (bar x).a, .int .i64 (bar x).n]) ?_ rfl ⟨rfl, ?_⟩
  · simp [results, Tryz.results150, go_sem, hc, bar, zw10, zw11]
  · repeat (first | (with_reducible exact Below.refl _ _) | (with_reducible refine Below.setCell ?_ ?_ _) | (with_reducible refine Below.drew ?_) | (with_reducible refine Below.alloc ?_ ?_ _) | (with_reducible refine Below.trans ?_ (Below.mono hw1 ?_)) | (with_reducible exact hw1.size) | omega | (simp <;> omega) | (simp <;> (have s := hw1.size; omega)) | (have s0 := hw1.size; (try simp at s0); (try simp); omega))

set_option maxHeartbeats 400000 in
theorem vwithin_any (x : Q) (m : Int) (w : World) (h0 : 0 ≤ m) (h1 : m ≤ 1099511627776) :
    Calls Tryz.prog 135 #[.agg #[.int .i64 x.b, .int .i64 x.c, .int .i64 x.d], .int .i64 m] w fun e w' => e = .returned (.bool (inB x.b (-m) m && inB x.c (-m) m && inB x.d (-m) m)) ∧ Below w.heap.size w w' := by
  cases e1 : inB x.b (-m) m
  · go_enter Tryz.func135, Tryz.ntmps135
    go_wp2_with (go_at_call 134; refine (isWithin_any _ _ _ h0 h1).mono ?_; rintro e w1 ⟨rfl, rfl⟩)
    go_ret
    exact ⟨rfl, by repeat (first | (with_reducible exact Below.refl _ _) | (with_reducible refine Below.setCell ?_ ?_ _) | (with_reducible refine Below.drew ?_) | (with_reducible refine Below.alloc ?_ ?_ _) | omega | (simp <;> omega))⟩
  cases e2 : inB x.c (-m) m
  · go_enter Tryz.func135, Tryz.ntmps135
    go_wp2_with (go_at_call 134; refine (isWithin_any _ _ _ h0 h1).mono ?_; rintro e w1 ⟨rfl, rfl⟩)
    go_ret
    exact ⟨rfl, by repeat (first | (with_reducible exact Below.refl _ _) | (with_reducible refine Below.setCell ?_ ?_ _) | (with_reducible refine Below.drew ?_) | (with_reducible refine Below.alloc ?_ ?_ _) | omega | (simp <;> omega))⟩
  cases e3 : inB x.d (-m) m
  all_goals
    go_enter Tryz.func135, Tryz.ntmps135
    go_wp2_with (go_at_call 134; refine (isWithin_any _ _ _ h0 h1).mono ?_; rintro e w1 ⟨rfl, rfl⟩)
    go_ret
    exact ⟨rfl, by repeat (first | (with_reducible exact Below.refl _ _) | (with_reducible refine Below.setCell ?_ ?_ _) | (with_reducible refine Below.drew ?_) | (with_reducible refine Below.alloc ?_ ?_ _) | omega | (simp <;> omega))⟩
end Go.Proofs.YtpfhjdmgkckjfaaGreatDoor

/- Whether a quaternion has the length 1, and which units are valid, as the program finds it.
Conditions: the bounds written at each theorem. -/
namespace Go.Proofs.YtpfhjdmgkckjfaaGreatDoor
set_option linter.unusedVariables false
set_option linter.unusedSimpArgs false
open Go.RowKit
open Um

def uB (x : Q) : Bool := decide (x.a * x.a + (x.b * x.b + x.c * x.c + x.d * x.d) = x.n * x.n)
theorem uB_iff (x : Q) (hn : 0 < x.n) : uB x = true ↔ U x := by
  simp only [uB, decide_eq_true_eq]
  constructor
  · intro h; exact ⟨hn, by omega⟩
  · intro h; have := h.len; omega
theorem uB_false_of {x : Q} (hn : 0 < x.n) (h : ¬ (-x.n ≤ x.a ∧ x.a ≤ x.n ∧ -x.n ≤ x.b ∧ x.b ≤ x.n ∧ -x.n ≤ x.c ∧ x.c ≤ x.n ∧ -x.n ≤ x.d ∧ x.d ≤ x.n)) : uB x = false := by
  cases e : uB x
  · rfl
  · exact absurd (part_le x ((uB_iff x hn).1 e)) h
theorem inB_iff {n lo hi : Int} : inB n lo hi = true ↔ lo ≤ n ∧ n ≤ hi := by simp [inB]
theorem inB_false {n lo hi : Int} (h : inB n lo hi = false) : ¬ (lo ≤ n ∧ n ≤ hi) := fun h' => by rw [inB_iff.2 h'] at h; cases h

set_option maxHeartbeats 400000 in
theorem isUnit_any (x : Q) (w : World) (h0 : 0 < x.n) (h1 : x.n ≤ 1073741824) : Calls Tryz.prog 107 #[.agg #[.int .i64 x.b, .int .i64 x.c, .int .i64 x.d, .int .i64 x.a, .int .i64 x.n]] w fun e w' => e = .returned (.bool (uB x)) ∧ Below w.heap.size w w' := by
  have c1 := fun W : World => isWithin_any x.a x.n W (by omega) (by omega)
  have c2 := fun W : World => vwithin_any x x.n W (by omega) (by omega)
  have c1' : ∀ W : World, Calls Tryz.prog 134 #[.int .i64 x.a, .int .i64 x.n] W fun e w' => e = .returned (.bool (inB x.a (-x.n) x.n)) ∧ Below W.heap.size W w' := fun W => (c1 W).mono fun e w' ⟨he, hw⟩ => ⟨he, hw ▸ Below.refl _ _⟩
  clear c1
  have kc := @Tail.cell_re
  cases e1 : inB x.a (-x.n) x.n
  · have hr := uB_false_of h0 (fun hh => inB_false e1 ⟨hh.1, hh.2.1⟩)
    rw [hr]
    rw [e1] at c1'
    clear hr e1 c2
    go_enter Tryz.func107, Tryz.ntmps107
    go_wp2
    refine Tail.region_below (by kernel_rfl) (by kernel_rfl) ?_
    repeat (go_big_quiet_step (with_reducible exact Calls.regrown_of (c1' _)))
    refine wpQuiet_nil ?_
    intro w2 hw2
    go_wp2
    go_ret
    exact ⟨rfl, by repeat (first | (with_reducible exact Below.refl _ _) | (with_reducible refine Below.setCell ?_ ?_ _) | (with_reducible refine Below.drew ?_) | (with_reducible refine Below.alloc ?_ ?_ _) | (with_reducible refine Below.trans ?_ (Below.mono hw2 ?_)) | (with_reducible exact hw2.size) | omega | (simp <;> omega) | (simp <;> (have s := hw2.size; omega)) | (have s0 := hw2.size; (try simp at s0); (try simp); omega))⟩
  rw [e1] at c1'
  cases e2 : inB x.b (-x.n) x.n && inB x.c (-x.n) x.n && inB x.d (-x.n) x.n
  · have hr := uB_false_of h0 (fun hh => by
      rw [inB_iff.2 ⟨hh.2.2.1, hh.2.2.2.1⟩, inB_iff.2 ⟨hh.2.2.2.2.1, hh.2.2.2.2.2.1⟩, inB_iff.2 ⟨hh.2.2.2.2.2.2.1, hh.2.2.2.2.2.2.2⟩] at e2
      cases e2)
    rw [hr]
    rw [e2] at c2
    clear hr e1 e2
    go_enter Tryz.func107, Tryz.ntmps107
    go_wp2
    refine Tail.region_below (by kernel_rfl) (by kernel_rfl) ?_
    repeat (go_big_quiet_step (first | (with_reducible exact Calls.regrown_of (c1' _)) | (with_reducible exact Calls.regrown_of (c2 _))))
    refine wpQuiet_nil ?_
    intro w2 hw2
    go_wp2
    go_ret
    exact ⟨rfl, by repeat (first | (with_reducible exact Below.refl _ _) | (with_reducible refine Below.setCell ?_ ?_ _) | (with_reducible refine Below.drew ?_) | (with_reducible refine Below.alloc ?_ ?_ _) | (with_reducible refine Below.trans ?_ (Below.mono hw2 ?_)) | (with_reducible exact hw2.size) | omega | (simp <;> omega) | (simp <;> (have s := hw2.size; omega)) | (have s0 := hw2.size; (try simp at s0); (try simp); omega))⟩
  rw [e2] at c2
  simp only [Bool.and_eq_true] at e2
  have b1 := inB_iff.1 e1
  have b2 := inB_iff.1 e2.1.1
  have b3 := inB_iff.1 e2.1.2
  have b4 := inB_iff.1 e2.2
  have hs : Small2 x x := Small2.of (X := 1073741824) (Y := 1073741824) (by omega) (by omega) (by rintro p (rfl | rfl | rfl | rfl | rfl) <;> omega) (by rintro p (rfl | rfl | rfl | rfl | rfl) <;> omega)
  have c3 := fun W : World => dot_any x x W hs
  have pa := hs.h x.a x.a (by simp) (by simp)
  have pb := hs.h x.b x.b (by simp) (by simp)
  have pc := hs.h x.c x.c (by simp) (by simp)
  have pd := hs.h x.d x.d (by simp) (by simp)
  have pn := hs.h x.n x.n (by simp) (by simp)
  have wa : IntKind.i64.wrap (x.a * x.a) = x.a * x.a := IntWalk.i64_in _ (by omega)
  have wn : IntKind.i64.wrap (x.n * x.n) = x.n * x.n := IntWalk.i64_in _ (by omega)
  have ws : IntKind.i64.wrap (x.a * x.a + (x.b * x.b + x.c * x.c + x.d * x.d)) = x.a * x.a + (x.b * x.b + x.c * x.c + x.d * x.d) := IntWalk.i64_in _ (by omega)
  clear e1 e2 hs pa pb pc pd pn b1 b2 b3 b4 h0 h1
  go_enter Tryz.func107, Tryz.ntmps107
  go_wp2
  refine Tail.region_below (by kernel_rfl) (by kernel_rfl) ?_
  repeat (go_big_quiet_step (first | (with_reducible exact Calls.regrown_of (c1' _)) | (with_reducible exact Calls.regrown_of (c2 _)) | (with_reducible exact Calls.regrown_of (c3 _))))
  refine wpQuiet_nil ?_
  intro w2 hw2
  go_wp2
  go_ret
  exact ⟨rfl, by repeat (first | (with_reducible exact Below.refl _ _) | (with_reducible refine Below.setCell ?_ ?_ _) | (with_reducible refine Below.drew ?_) | (with_reducible refine Below.alloc ?_ ?_ _) | (with_reducible refine Below.trans ?_ (Below.mono hw2 ?_)) | (with_reducible exact hw2.size) | omega | (simp <;> omega) | (simp <;> (have s := hw2.size; omega)) | (have s0 := hw2.size; (try simp at s0); (try simp); omega))⟩
end Go.Proofs.YtpfhjdmgkckjfaaGreatDoor

/- Which units are valid, as the program finds it.
Conditions: none. -/
namespace Go.Proofs.YtpfhjdmgkckjfaaGreatDoor
set_option linter.unusedVariables false
set_option linter.unusedSimpArgs false
open Go.RowKit
open Um

theorem V.in {x : Q} (h : V x) : In x 1048576 := by
  have hp := part_le x h.u
  have hl := h.le
  have h0 := h.u.pos
  exact ⟨by omega, by omega, by omega, by omega, by omega⟩
theorem U.in {x : Q} (h : U x) {m : Int} (hm : x.n ≤ m) : In x m := by
  have hp := part_le x h
  have h0 := h.pos
  exact ⟨by omega, by omega, by omega, by omega, by omega⟩

set_option maxHeartbeats 400000 in
theorem validate_ok (x : Q) (w : World) (h : V x) : Calls Tryz.prog 87 #[.agg #[.int .i64 x.a, .int .i64 x.b, .int .i64 x.c, .int .i64 x.d, .int .i64 x.n]] w fun e w' => e = .returned (.int .i64 0) ∧ Below w.heap.size w w' := by
  have hi := (V.in h).le (k := 4611686018427387904) (by omega)
  have c1 := fun W : World => quaternionOf_any x W
  have c2 := fun W : World => isUnit_any x W h.u.pos (by have := h.le; omega)
  have c3 := fun W : World => common_any x W hi
  have hn := h.u.pos
  have hl := h.le
  have hg := h.prim
  rw [(uB_iff x hn).2 h.u] at c2
  rw [hg] at c3
  clear hi hg h
  go_enter Tryz.func87, Tryz.ntmps87
  go_wp2_with (first | (go_at_call 106; refine (c1 _).mono ?_; rintro e w1 ⟨rfl, hw1⟩; have hc1 := Tail.cells hw1; have zw10 := Nat.lt_of_lt_of_le (n := w.heap.size) (by simp <;> omega) hw1.size) | (go_at_call 107; refine (c2 _).mono ?_; rintro e w2 ⟨rfl, hw2⟩; have hc2 := Tail.cells hw2; have z2 := Nat.lt_of_lt_of_le (n := w1.heap.size) (by simp <;> omega) hw2.size) | (go_at_call 108; refine (c3 _).mono ?_; rintro e w3 ⟨rfl, hw3⟩))
  go_ret
  exact ⟨rfl, by repeat (first | (with_reducible exact Below.refl _ _) | (with_reducible refine Below.setCell ?_ ?_ _) | (with_reducible refine Below.drew ?_) | (with_reducible refine Below.alloc ?_ ?_ _) | (with_reducible refine Below.trans ?_ (Below.mono hw3 ?_)) | (with_reducible refine Below.trans ?_ (Below.mono hw2 ?_)) | (with_reducible refine Below.trans ?_ (Below.mono hw1 ?_)) | (with_reducible exact hw3.size) | (with_reducible exact hw2.size) | (with_reducible exact hw1.size) | omega | (simp <;> omega) | (simp <;> (have s := hw3.size; omega)) | (simp <;> (have s := hw2.size; omega)) | (simp <;> (have s := hw1.size; omega)) | (have s0 := hw3.size; (try simp at s0); have s1 := hw2.size; (try simp at s1); have s2 := hw1.size; (try simp at s2); (try simp); omega))⟩

set_option maxHeartbeats 1200000 in
theorem validate_bad (x : Q) (w : World) (h : ¬ V x) : Calls Tryz.prog 87 #[.agg #[.int .i64 x.a, .int .i64 x.b, .int .i64 x.c, .int .i64 x.d, .int .i64 x.n]] w fun e w' => e = .returned (.int .i64 1) ∧ Below w.heap.size w w' := by
  have c1 := fun W : World => quaternionOf_any x W
  by_cases h1 : x.n < 1
  · clear h
    go_enter Tryz.func87, Tryz.ntmps87
    go_wp2_with (go_at_call 106; refine (c1 _).mono ?_; rintro e w1 ⟨rfl, hw1⟩; have hc1 := Tail.cells hw1; have zw10 := Nat.lt_of_lt_of_le (n := w.heap.size) (by simp <;> omega) hw1.size)
    go_ret
    exact ⟨rfl, by repeat (first | (with_reducible exact Below.refl _ _) | (with_reducible refine Below.setCell ?_ ?_ _) | (with_reducible refine Below.drew ?_) | (with_reducible refine Below.alloc ?_ ?_ _) | (with_reducible refine Below.trans ?_ (Below.mono hw1 ?_)) | (with_reducible exact hw1.size) | omega | (simp <;> omega) | (simp <;> (have s := hw1.size; omega)) | (have s0 := hw1.size; (try simp at s0); (try simp); omega))⟩
  by_cases h2 : 1048576 < x.n
  · clear h
    go_enter Tryz.func87, Tryz.ntmps87
    go_wp2_with (go_at_call 106; refine (c1 _).mono ?_; rintro e w1 ⟨rfl, hw1⟩; have hc1 := Tail.cells hw1; have zw10 := Nat.lt_of_lt_of_le (n := w.heap.size) (by simp <;> omega) hw1.size)
    go_ret
    exact ⟨rfl, by repeat (first | (with_reducible exact Below.refl _ _) | (with_reducible refine Below.setCell ?_ ?_ _) | (with_reducible refine Below.drew ?_) | (with_reducible refine Below.alloc ?_ ?_ _) | (with_reducible refine Below.trans ?_ (Below.mono hw1 ?_)) | (with_reducible exact hw1.size) | omega | (simp <;> omega) | (simp <;> (have s := hw1.size; omega)) | (have s0 := hw1.size; (try simp at s0); (try simp); omega))⟩
  have h3 : 0 < x.n := by omega
  have h4 : x.n ≤ 1048576 := by omega
  have c2 := fun W : World => isUnit_any x W h3 (by omega)
  cases hu : uB x
  · rw [hu] at c2
    clear h hu
    go_enter Tryz.func87, Tryz.ntmps87
    go_wp2_with (first | (go_at_call 106; refine (c1 _).mono ?_; rintro e w1 ⟨rfl, hw1⟩; have hc1 := Tail.cells hw1; have zw10 := Nat.lt_of_lt_of_le (n := w.heap.size) (by simp <;> omega) hw1.size) | (go_at_call 107; refine (c2 _).mono ?_; rintro e w2 ⟨rfl, hw2⟩; have hc2 := Tail.cells hw2; have z2 := Nat.lt_of_lt_of_le (n := w1.heap.size) (by simp <;> omega) hw2.size))
    go_ret
    exact ⟨rfl, by repeat (first | (with_reducible exact Below.refl _ _) | (with_reducible refine Below.setCell ?_ ?_ _) | (with_reducible refine Below.drew ?_) | (with_reducible refine Below.alloc ?_ ?_ _) | (with_reducible refine Below.trans ?_ (Below.mono hw2 ?_)) | (with_reducible refine Below.trans ?_ (Below.mono hw1 ?_)) | (with_reducible exact hw2.size) | (with_reducible exact hw1.size) | omega | (simp <;> omega) | (simp <;> (have s := hw2.size; omega)) | (simp <;> (have s := hw1.size; omega)) | (have s0 := hw2.size; (try simp at s0); have s1 := hw1.size; (try simp at s1); (try simp); omega))⟩
  rw [hu] at c2
  have u := (uB_iff x h3).1 hu
  have hg : ((g x : Int) == 1) = false := by
    have : g x ≠ 1 := fun hg => h ⟨u, hg, h4⟩
    simp; omega
  have hg' : ((g x : Int) != 1) = true := by simp only [bne, hg]; rfl
  have hi := (U.in u h4).le (k := 4611686018427387904) (by omega)
  have c3 := fun W : World => common_any x W hi
  clear h hu hi u
  go_enter Tryz.func87, Tryz.ntmps87
  go_wp2_with (first | (go_at_call 106; refine (c1 _).mono ?_; rintro e w1 ⟨rfl, hw1⟩; have hc1 := Tail.cells hw1; have zw10 := Nat.lt_of_lt_of_le (n := w.heap.size) (by simp <;> omega) hw1.size) | (go_at_call 107; refine (c2 _).mono ?_; rintro e w2 ⟨rfl, hw2⟩; have hc2 := Tail.cells hw2; have z2 := Nat.lt_of_lt_of_le (n := w1.heap.size) (by simp <;> omega) hw2.size) | (go_at_call 108; refine (c3 _).mono ?_; rintro e w3 ⟨rfl, hw3⟩))
  go_ret
  exact ⟨rfl, by repeat (first | (with_reducible exact Below.refl _ _) | (with_reducible refine Below.setCell ?_ ?_ _) | (with_reducible refine Below.drew ?_) | (with_reducible refine Below.alloc ?_ ?_ _) | (with_reducible refine Below.trans ?_ (Below.mono hw3 ?_)) | (with_reducible refine Below.trans ?_ (Below.mono hw2 ?_)) | (with_reducible refine Below.trans ?_ (Below.mono hw1 ?_)) | (with_reducible exact hw3.size) | (with_reducible exact hw2.size) | (with_reducible exact hw1.size) | omega | (simp <;> omega) | (simp <;> (have s := hw3.size; omega)) | (simp <;> (have s := hw2.size; omega)) | (simp <;> (have s := hw1.size; omega)) | (have s0 := hw3.size; (try simp at s0); have s1 := hw2.size; (try simp at s1); have s2 := hw1.size; (try simp at s2); (try simp); omega))⟩
end Go.Proofs.YtpfhjdmgkckjfaaGreatDoor

/- Which units are valid, as the document's answers find it.
Conditions: none. -/
namespace Go.Proofs.YtpfhjdmgkckjfaaGreatDoor
set_option linter.unusedVariables false
set_option linter.unusedSimpArgs false
open Go.RowKit
open Um

theorem inB_iff2 {n lo hi : Int} : inB n lo hi = true ↔ lo ≤ n ∧ n ≤ hi := by simp [inB]

set_option maxRecDepth 100000 in
set_option maxHeartbeats 2000000 in
theorem refValidate_any (x : Q) (w : World) (r : Int) (h : (V x ∧ r = 0) ∨ (¬ V x ∧ r = 1)) : Calls Tryz.prog 161 #[.agg #[.int .i64 x.a, .int .i64 x.b, .int .i64 x.c, .int .i64 x.d, .int .i64 x.n]] w fun e w' => e = .returned (.int .i64 r) ∧ Below w.heap.size w w' := by
  have nv : ∀ p : Prop, (V x → p) → ¬ p → r = 1 := fun p h1 h2 => by
    rcases h with h | h
    · exact absurd (h1 h.1) h2
    · exact h.2
  cases e0 : inB x.n 1 1048576
  · have hr : r = 1 := nv (inB x.n 1 1048576 = true) (fun v => inB_iff2.2 ⟨by have := v.u.pos; omega, v.le⟩) (by simp [e0])
    subst hr
    clear nv h
    go_enter Tryz.func161, Tryz.ntmps161
    go_wp2_with (go_at_call 163; refine (within_any _ _ _ _).mono ?_; rintro e w1 ⟨rfl, rfl⟩)
    go_ret
    exact ⟨rfl, by repeat (first | (with_reducible exact Below.refl _ _) | (with_reducible refine Below.setCell ?_ ?_ _) | (with_reducible refine Below.drew ?_) | (with_reducible refine Below.alloc ?_ ?_ _) | omega | (simp <;> omega))⟩
  have b0 := inB_iff2.1 e0
  obtain ⟨b01, b02⟩ := b0
  cases e1 : inB x.a (-x.n) x.n
  · have hr : r = 1 := nv (inB x.a (-x.n) x.n = true) (fun v => inB_iff2.2 ⟨by have := part_le x v.u; omega, by have := part_le x v.u; omega⟩) (by simp [e1])
    subst hr
    clear nv h
    go_enter Tryz.func161, Tryz.ntmps161
    go_wp2_with (go_at_call 163; refine (within_any _ _ _ _).mono ?_; rintro e w1 ⟨rfl, rfl⟩)
    go_ret
    exact ⟨rfl, by repeat (first | (with_reducible exact Below.refl _ _) | (with_reducible refine Below.setCell ?_ ?_ _) | (with_reducible refine Below.drew ?_) | (with_reducible refine Below.alloc ?_ ?_ _) | omega | (simp <;> omega))⟩
  cases e2 : inB x.b (-x.n) x.n
  · have hr : r = 1 := nv (inB x.b (-x.n) x.n = true) (fun v => inB_iff2.2 ⟨by have := part_le x v.u; omega, by have := part_le x v.u; omega⟩) (by simp [e2])
    subst hr
    clear nv h
    go_enter Tryz.func161, Tryz.ntmps161
    go_wp2_with (go_at_call 163; refine (within_any _ _ _ _).mono ?_; rintro e w1 ⟨rfl, rfl⟩)
    go_ret
    exact ⟨rfl, by repeat (first | (with_reducible exact Below.refl _ _) | (with_reducible refine Below.setCell ?_ ?_ _) | (with_reducible refine Below.drew ?_) | (with_reducible refine Below.alloc ?_ ?_ _) | omega | (simp <;> omega))⟩
  cases e3 : inB x.c (-x.n) x.n
  · have hr : r = 1 := nv (inB x.c (-x.n) x.n = true) (fun v => inB_iff2.2 ⟨by have := part_le x v.u; omega, by have := part_le x v.u; omega⟩) (by simp [e3])
    subst hr
    clear nv h
    go_enter Tryz.func161, Tryz.ntmps161
    go_wp2_with (go_at_call 163; refine (within_any _ _ _ _).mono ?_; rintro e w1 ⟨rfl, rfl⟩)
    go_ret
    exact ⟨rfl, by repeat (first | (with_reducible exact Below.refl _ _) | (with_reducible refine Below.setCell ?_ ?_ _) | (with_reducible refine Below.drew ?_) | (with_reducible refine Below.alloc ?_ ?_ _) | omega | (simp <;> omega))⟩
  cases e4 : inB x.d (-x.n) x.n
  · have hr : r = 1 := nv (inB x.d (-x.n) x.n = true) (fun v => inB_iff2.2 ⟨by have := part_le x v.u; omega, by have := part_le x v.u; omega⟩) (by simp [e4])
    subst hr
    clear nv h
    go_enter Tryz.func161, Tryz.ntmps161
    go_wp2_with (go_at_call 163; refine (within_any _ _ _ _).mono ?_; rintro e w1 ⟨rfl, rfl⟩)
    go_ret
    exact ⟨rfl, by repeat (first | (with_reducible exact Below.refl _ _) | (with_reducible refine Below.setCell ?_ ?_ _) | (with_reducible refine Below.drew ?_) | (with_reducible refine Below.alloc ?_ ?_ _) | omega | (simp <;> omega))⟩
  have b1 := inB_iff2.1 e1
  have b2 := inB_iff2.1 e2
  have b3 := inB_iff2.1 e3
  have b4 := inB_iff2.1 e4
  have hs : Small2 x x := Small2.of (X := 1073741824) (Y := 1073741824) (by omega) (by omega) (by rintro p (rfl | rfl | rfl | rfl | rfl) <;> omega) (by rintro p (rfl | rfl | rfl | rfl | rfl) <;> omega)
  obtain ⟨pa1, pa2⟩ := hs.h x.a x.a (by simp) (by simp)
  obtain ⟨pb1, pb2⟩ := hs.h x.b x.b (by simp) (by simp)
  obtain ⟨pc1, pc2⟩ := hs.h x.c x.c (by simp) (by simp)
  obtain ⟨pd1, pd2⟩ := hs.h x.d x.d (by simp) (by simp)
  obtain ⟨pn1, pn2⟩ := hs.h x.n x.n (by simp) (by simp)
  by_cases hq : x.a * x.a + x.b * x.b + x.c * x.c + x.d * x.d = x.n * x.n
  · have q1 : (x.a * x.a + x.b * x.b + x.c * x.c + x.d * x.d == x.n * x.n) = true := by simpa using hq
    have q2 : (x.a * x.a + x.b * x.b + x.c * x.c + x.d * x.d != x.n * x.n) = false := by simpa using hq
    have u : U x := ⟨by omega, hq⟩
    have cc := fun W : World => refCommon_any x W (by omega) (by omega) (by omega) (by omega) (by omega)
    by_cases hg : g x = 1
    · have hr : r = 0 := by
        rcases h with h | h
        · exact h.2
        · exact absurd ⟨u, hg, by omega⟩ h.1
      subst hr
      rw [hg] at cc
      clear nv h hs hq u hg b1 b2 b3 b4
      go_enter Tryz.func161, Tryz.ntmps161
      go_wp2_with (first | (go_at_call 163; refine (within_any _ _ _ _).mono ?_; rintro e w1 ⟨rfl, rfl⟩) | (go_at_call 164; refine (cc _).mono ?_; rintro e w1 ⟨rfl, hw1⟩))
      go_ret
      exact ⟨rfl, by repeat (first | (with_reducible exact Below.refl _ _) | (with_reducible refine Below.setCell ?_ ?_ _) | (with_reducible refine Below.drew ?_) | (with_reducible refine Below.alloc ?_ ?_ _) | (with_reducible refine Below.trans ?_ (Below.mono hw1 ?_)) | (with_reducible exact hw1.size) | omega | (simp <;> omega) | (simp <;> (have s := hw1.size; omega)) | (have s0 := hw1.size; (try simp at s0); (try simp); omega))⟩
    · have hr : r = 1 := nv (g x = 1) (fun v => v.prim) hg
      subst hr
      have g1 : ((g x : Int) == 1) = false := by simp; omega
      have g2 : ((g x : Int) != 1) = true := by simp only [bne, g1]; rfl
      clear nv h hs hq u hg b1 b2 b3 b4
      go_enter Tryz.func161, Tryz.ntmps161
      go_wp2_with (first | (go_at_call 163; refine (within_any _ _ _ _).mono ?_; rintro e w1 ⟨rfl, rfl⟩) | (go_at_call 164; refine (cc _).mono ?_; rintro e w1 ⟨rfl, hw1⟩))
      go_ret
      exact ⟨rfl, by repeat (first | (with_reducible exact Below.refl _ _) | (with_reducible refine Below.setCell ?_ ?_ _) | (with_reducible refine Below.drew ?_) | (with_reducible refine Below.alloc ?_ ?_ _) | (with_reducible refine Below.trans ?_ (Below.mono hw1 ?_)) | (with_reducible exact hw1.size) | omega | (simp <;> omega) | (simp <;> (have s := hw1.size; omega)) | (have s0 := hw1.size; (try simp at s0); (try simp); omega))⟩
  · have hr : r = 1 := nv _ (fun v => v.u.len) hq
    subst hr
    have q1 : (x.a * x.a + x.b * x.b + x.c * x.c + x.d * x.d == x.n * x.n) = false := by simpa using hq
    have q2 : (x.a * x.a + x.b * x.b + x.c * x.c + x.d * x.d != x.n * x.n) = true := by simpa using hq
    clear nv h hs hq b1 b2 b3 b4
    go_enter Tryz.func161, Tryz.ntmps161
    go_wp2_with (go_at_call 163; refine (within_any _ _ _ _).mono ?_; rintro e w1 ⟨rfl, rfl⟩)
    go_ret
    exact ⟨rfl, by repeat (first | (with_reducible exact Below.refl _ _) | (with_reducible refine Below.setCell ?_ ?_ _) | (with_reducible refine Below.drew ?_) | (with_reducible refine Below.alloc ?_ ?_ _) | omega | (simp <;> omega))⟩
end Go.Proofs.YtpfhjdmgkckjfaaGreatDoor

/- Lists of units: which are valid, one by one, as the program finds it.
Conditions: the list lies in memory as it is written at each theorem. -/
namespace Go.Proofs.YtpfhjdmgkckjfaaGreatDoor
set_option linter.unusedVariables false
set_option linter.unusedSimpArgs false
open Go.RowKit
open Um

/-- A list of units lies at a place of memory, five cells a unit. -/
def Lies (w : World) (b off : Nat) (L : List Q) : Prop := ∀ (i : Nat) (x : Q), L[i]? = some x →
  w.cell? ⟨b, off + i * 5, none⟩ = some (.int .i64 x.a) ∧ w.cell? ⟨b, off + i * 5 + 1, none⟩ = some (.int .i64 x.b) ∧ w.cell? ⟨b, off + i * 5 + 2, none⟩ = some (.int .i64 x.c) ∧ w.cell? ⟨b, off + i * 5 + 3, none⟩ = some (.int .i64 x.d) ∧ w.cell? ⟨b, off + i * 5 + 4, none⟩ = some (.int .i64 x.n)

theorem Lies.later {w w1 : World} {b off : Nat} {L : List Q} (h : Lies w b off L) (hb : Below w.heap.size w w1) : Lies w1 b off L := fun i x hx => by
  have f := h i x hx
  have g : ∀ a : Addr, ∀ v : Value, w.cell? a = some v → w1.cell? a = some v := fun a v hv => by rw [hb.cell (World.block_lt_of_cell? w a hv)]; exact hv
  exact ⟨g _ _ f.1, g _ _ f.2.1, g _ _ f.2.2.1, g _ _ f.2.2.2.1, g _ _ f.2.2.2.2⟩

/-- the error of the first unit that is not valid -/
def vAll (L : List Q) (r : Int) : Prop := ((∀ x ∈ L, V x) ∧ r = 0) ∨ ((∃ x ∈ L, ¬ V x) ∧ r = 1)

set_option maxHeartbeats 800000 in
theorem validateAll_any (b off cap : Nat) (L : List Q) (w : World) (r : Int) (hL : Lies w b off L) (hlen : L.length ≤ 1152921504606846976) (hr : vAll L r) :
    Calls Tryz.prog 109 #[.slice (some ⟨b, off, none⟩) L.length cap] w fun e w' => e = .returned (.int .i64 r) ∧ Below w.heap.size w w' := by
  go_enter Tryz.func109, Tryz.ntmps109
  go_wp2
  go_loopw [4, 5, 8] (fun _ _ q wr => ∃ k : Nat, k ≤ L.length ∧ q = .int .i64 k ∧ (∀ i x, i < k → L[i]? = some x → V x) ∧ Below w.heap.size w wr) (fun _ _ q _ => L.length - (intOf q).toNat)
  case atStart => exact ⟨0, by omega, rfl, by omega, Below.refl _ _⟩
  case round =>
    obtain ⟨k, hk, rfl, hall, hb⟩ := hrel
    by_cases hlt : k < L.length
    · have hx : L[k]? = some L[k] := List.getElem?_eq_getElem hlt
      obtain ⟨c0, c1, c2, c3, c4⟩ := hL.later hb k _ hx
      generalize hX : L[k] = x at *
      have HX := Lib.hid hX
      have HX2 := Lib.hid hx
      have HA := Lib.hid hall
      clear hX hx hall
      by_cases hv : V x
      · go_wp2_with (go_at_call 87; refine (validate_ok _ _ hv).mono ?_; rintro e w1 ⟨rfl, hw1⟩)
        exact ⟨⟨k + 1, by omega, by go_num, fun i y hi hy => by
          rcases Nat.lt_or_ge i k with h1 | h1
          · exact HA.out i y h1 hy
          · obtain rfl : i = k := by omega
            have e := HX2.out.symm.trans hy
            simp only [Option.some.injEq] at e
            rw [← e]
            exact hv, by repeat (first | (with_reducible exact Below.refl _ _) | (with_reducible refine Below.setCell ?_ ?_ _) | (with_reducible refine Below.drew ?_) | (with_reducible refine Below.alloc ?_ ?_ _) | (with_reducible refine Below.trans ?_ (Below.mono hw1 ?_)) | (with_reducible refine Below.trans ?_ (Below.mono hb ?_)) | (with_reducible exact hw1.size) | (with_reducible exact hb.size) | omega | (simp <;> omega) | (simp <;> (have s := hw1.size; omega)) | (simp <;> (have s := hb.size; omega)) | (have s0 := hw1.size; (try simp at s0); have s1 := hb.size; (try simp at s1); (try simp); omega))⟩, by simp [intOf]; omega⟩
      · have h1 : r = 1 := by
          rcases hr with h | h
          · exact absurd (h.1 x (HX.out ▸ List.getElem_mem hlt)) hv
          · exact h.2
        subst h1
        go_wp2_with (go_at_call 87; refine (validate_bad _ _ hv).mono ?_; rintro e w1 ⟨rfl, hw1⟩)
        go_ret
        exact ⟨rfl, by repeat (first | (with_reducible exact Below.refl _ _) | (with_reducible refine Below.setCell ?_ ?_ _) | (with_reducible refine Below.drew ?_) | (with_reducible refine Below.alloc ?_ ?_ _) | (with_reducible refine Below.trans ?_ (Below.mono hw1 ?_)) | (with_reducible refine Below.trans ?_ (Below.mono hb ?_)) | (with_reducible exact hw1.size) | (with_reducible exact hb.size) | omega | (simp <;> omega) | (simp <;> (have s := hw1.size; omega)) | (simp <;> (have s := hb.size; omega)) | (have s0 := hw1.size; (try simp at s0); have s1 := hb.size; (try simp at s1); (try simp); omega))⟩
    · obtain rfl : k = L.length := by omega
      have h0 : r = 0 := by
        rcases hr with h | ⟨⟨x, hx, hv⟩, _⟩
        · exact h.2
        · obtain ⟨i, hi, rfl⟩ := List.getElem_of_mem hx
          exact absurd (hall i _ hi (List.getElem?_eq_getElem hi)) hv
      subst h0
      clear hall
      go_wp2
      go_ret
      exact ⟨rfl, hb⟩

end Go.Proofs.YtpfhjdmgkckjfaaGreatDoor

/- Products of two units, as the program makes them.
Conditions: none. -/
namespace Go.Proofs.YtpfhjdmgkckjfaaGreatDoor
set_option linter.unusedVariables false
set_option linter.unusedSimpArgs false
open Go.RowKit
open Um

theorem V.small2 {x y : Q} (hx : V x) (hy : V y) : Small2 x y := by
  have ix := V.in hx
  have iy := V.in hy
  have a1 := ix.a; have a2 := ix.b; have a3 := ix.c; have a4 := ix.d; have a5 := ix.n
  have b1 := iy.a; have b2 := iy.b; have b3 := iy.c; have b4 := iy.d; have b5 := iy.n
  exact Small2.of (X := 1048576) (Y := 1048576) (by omega) (by omega) (by rintro p (rfl | rfl | rfl | rfl | rfl) <;> omega) (by rintro p (rfl | rfl | rfl | rfl | rfl) <;> omega)
theorem V.mul_in {x y : Q} (hx : V x) (hy : V y) : In (mul x y) 4611686018427387904 := by
  have h := mul_len x y hx.u hy.u
  refine U.in h ?_
  have := (V.small2 hx hy).h x.n y.n (by simp) (by simp)
  have e : (mul x y).n = x.n * y.n := rfl
  omega

/-- What the program answers to a product. -/
def mulR (x y r : Q) (e : Int) : Prop :=
  (V x ∧ V y ∧ (low (mul x y)).n ≤ 1048576 ∧ r = low (mul x y) ∧ e = 0) ∨ (V x ∧ V y ∧ 1048576 < (low (mul x y)).n ∧ r = zero ∧ e = 3) ∨ ((¬ V x ∨ ¬ V y) ∧ r = zero ∧ e = 1)

end Go.Proofs.YtpfhjdmgkckjfaaGreatDoor

/- Products, inverses and opposites, as the document's answers and the program make them.
Conditions: none. -/
namespace Go.Proofs.YtpfhjdmgkckjfaaGreatDoor
set_option linter.unusedVariables false
set_option linter.unusedSimpArgs false
open Go.RowKit
open Um

/-- valid or not: the error -/
def vE (x : Q) (r : Int) : Prop := (V x ∧ r = 0) ∨ (¬ V x ∧ r = 1)

set_option maxHeartbeats 800000 in
theorem inv_ok (x : Q) (w : World) (h : V x) : Calls Tryz.prog 128 #[.agg #[.int .i64 x.a, .int .i64 x.b, .int .i64 x.c, .int .i64 x.d, .int .i64 x.n]] w fun e w' => e = .returned (.tuple #[.agg #[.int .i64 (bar x).a, .int .i64 (bar x).b, .int .i64 (bar x).c, .int .i64 (bar x).d, .int .i64 (bar x).n], .int .i64 0]) ∧ Below w.heap.size w w' := by
  have i := V.in h
  have c1 := fun W : World => validate_ok x W h
  have c2 := fun W : World => quaternionOf_any x W
  have c3 := fun W : World => inverse_any x W (by have := i.b; omega) (by have := i.c; omega) (by have := i.d; omega)
  have c4 := fun W : World => unit_ok (bar x) W ((V.in h.bar).le (by omega)) (by rw [h.bar.low]; exact h.le)
  rw [h.bar.low] at c4
  clear h i
  go_enter Tryz.func128, Tryz.ntmps128
  go_wp2_with (first | ((with_reducible refine (c1 _).mono ?_); rintro e w1 ⟨rfl, hw1⟩; have hc := Tail.cells hw1; have zw10 := Nat.lt_of_lt_of_le (n := w.heap.size) (by simp <;> omega) hw1.size; have zw11 := Nat.lt_of_lt_of_le (n := w.heap.size + 1) (by simp <;> omega) hw1.size) | ((with_reducible refine (c2 _).mono ?_); rintro e w2 ⟨rfl, hw2⟩; have hc2 := Tail.cells hw2; have z2 := Nat.lt_of_lt_of_le zw11 hw2.size) | ((with_reducible refine (c3 _).mono ?_); rintro e w3 ⟨rfl, hw3⟩; have hc3 := Tail.cells hw3; have z3 := Nat.lt_of_lt_of_le z2 hw3.size) | ((with_reducible refine (c4 _).mono ?_); rintro e w4 ⟨rfl, hw4⟩; have hc4 := Tail.cells hw4; have z4 := Nat.lt_of_lt_of_le z3 hw4.size))
  refine bodyPost_ret (v := .tuple #[.agg #[.int .i64 (bar x).a, .int .i64 (bar x).b, .int .i64 (bar x).c, .int .i64 (bar x).d, .int .i64 (bar x).n], .int .i64 0]) ?_ rfl ⟨rfl, ?_⟩
  · simp [results, Tryz.results128, go_sem, hc, hc2, hc3, hc4, zw10, zw11, z2, z3, z4]
  · repeat (first | (with_reducible exact Below.refl _ _) | (with_reducible refine Below.setCell ?_ ?_ _) | (with_reducible refine Below.drew ?_) | (with_reducible refine Below.alloc ?_ ?_ _) | (with_reducible refine Below.trans ?_ (Below.mono hw4 ?_)) | (with_reducible refine Below.trans ?_ (Below.mono hw3 ?_)) | (with_reducible refine Below.trans ?_ (Below.mono hw2 ?_)) | (with_reducible refine Below.trans ?_ (Below.mono hw1 ?_)) | (with_reducible exact hw4.size) | (with_reducible exact hw3.size) | (with_reducible exact hw2.size) | (with_reducible exact hw1.size) | omega | (simp <;> omega) | (simp <;> (have s := hw4.size; omega)) | (simp <;> (have s := hw3.size; omega)) | (simp <;> (have s := hw2.size; omega)) | (simp <;> (have s := hw1.size; omega)) | (have s0 := hw4.size; (try simp at s0); have s1 := hw3.size; (try simp at s1); have s2 := hw2.size; (try simp at s2); have s3 := hw1.size; (try simp at s3); (try simp); omega))

end Go.Proofs.YtpfhjdmgkckjfaaGreatDoor
