/- Which units are valid, as the document's answers find it.
Conditions: none. -/
import Derived.Test.YtdplojcbfdbgnaaLow
import Derived.Test.YtdplojcbfdbgnaaRaw
namespace Go.Proofs.Ytdplojcbfdbgnaa
set_option linter.unusedVariables false
set_option linter.unusedSimpArgs false
open Go.RowKit
open Um

theorem inB_iff2 {n lo hi : Int} : inB n lo hi = true ↔ lo ≤ n ∧ n ≤ hi := by simp [inB]

set_option maxRecDepth 100000 in
set_option maxHeartbeats 2000000 in
theorem refValidate_any (x : Q) (w : World) (r : Int) (h : (V x ∧ r = 0) ∨ (¬ V x ∧ r = 1)) : Calls Try.prog 129 #[.agg #[.int .i64 x.a, .int .i64 x.b, .int .i64 x.c, .int .i64 x.d, .int .i64 x.n]] w fun e w' => e = .returned (.int .i64 r) ∧ Below w.heap.size w w' := by
  have nv : ∀ p : Prop, (V x → p) → ¬ p → r = 1 := fun p h1 h2 => by
    rcases h with h | h
    · exact absurd (h1 h.1) h2
    · exact h.2
  cases e0 : inB x.n 1 1048576
  · have hr : r = 1 := nv (inB x.n 1 1048576 = true) (fun v => inB_iff2.2 ⟨by have := v.u.pos; omega, v.le⟩) (by simp [e0])
    subst hr
    clear nv h
    go_enter Try.func129, Try.ntmps129
    go_wp2_with (go_at_call 145; refine (within_any _ _ _ _).mono ?_; rintro e w1 ⟨rfl, rfl⟩)
    go_ret
    exact ⟨rfl, by repeat (first | (with_reducible exact Below.refl _ _) | (with_reducible refine Below.setCell ?_ ?_ _) | (with_reducible refine Below.drew ?_) | (with_reducible refine Below.alloc ?_ ?_ _) | omega | (simp <;> omega))⟩
  have b0 := inB_iff2.1 e0
  obtain ⟨b01, b02⟩ := b0
  cases e1 : inB x.a (-x.n) x.n
  · have hr : r = 1 := nv (inB x.a (-x.n) x.n = true) (fun v => inB_iff2.2 ⟨by have := part_le x v.u; omega, by have := part_le x v.u; omega⟩) (by simp [e1])
    subst hr
    clear nv h
    go_enter Try.func129, Try.ntmps129
    go_wp2_with (go_at_call 145; refine (within_any _ _ _ _).mono ?_; rintro e w1 ⟨rfl, rfl⟩)
    go_ret
    exact ⟨rfl, by repeat (first | (with_reducible exact Below.refl _ _) | (with_reducible refine Below.setCell ?_ ?_ _) | (with_reducible refine Below.drew ?_) | (with_reducible refine Below.alloc ?_ ?_ _) | omega | (simp <;> omega))⟩
  cases e2 : inB x.b (-x.n) x.n
  · have hr : r = 1 := nv (inB x.b (-x.n) x.n = true) (fun v => inB_iff2.2 ⟨by have := part_le x v.u; omega, by have := part_le x v.u; omega⟩) (by simp [e2])
    subst hr
    clear nv h
    go_enter Try.func129, Try.ntmps129
    go_wp2_with (go_at_call 145; refine (within_any _ _ _ _).mono ?_; rintro e w1 ⟨rfl, rfl⟩)
    go_ret
    exact ⟨rfl, by repeat (first | (with_reducible exact Below.refl _ _) | (with_reducible refine Below.setCell ?_ ?_ _) | (with_reducible refine Below.drew ?_) | (with_reducible refine Below.alloc ?_ ?_ _) | omega | (simp <;> omega))⟩
  cases e3 : inB x.c (-x.n) x.n
  · have hr : r = 1 := nv (inB x.c (-x.n) x.n = true) (fun v => inB_iff2.2 ⟨by have := part_le x v.u; omega, by have := part_le x v.u; omega⟩) (by simp [e3])
    subst hr
    clear nv h
    go_enter Try.func129, Try.ntmps129
    go_wp2_with (go_at_call 145; refine (within_any _ _ _ _).mono ?_; rintro e w1 ⟨rfl, rfl⟩)
    go_ret
    exact ⟨rfl, by repeat (first | (with_reducible exact Below.refl _ _) | (with_reducible refine Below.setCell ?_ ?_ _) | (with_reducible refine Below.drew ?_) | (with_reducible refine Below.alloc ?_ ?_ _) | omega | (simp <;> omega))⟩
  cases e4 : inB x.d (-x.n) x.n
  · have hr : r = 1 := nv (inB x.d (-x.n) x.n = true) (fun v => inB_iff2.2 ⟨by have := part_le x v.u; omega, by have := part_le x v.u; omega⟩) (by simp [e4])
    subst hr
    clear nv h
    go_enter Try.func129, Try.ntmps129
    go_wp2_with (go_at_call 145; refine (within_any _ _ _ _).mono ?_; rintro e w1 ⟨rfl, rfl⟩)
    go_ret
    exact ⟨rfl, by repeat (first | (with_reducible exact Below.refl _ _) | (with_reducible refine Below.setCell ?_ ?_ _) | (with_reducible refine Below.drew ?_) | (with_reducible refine Below.alloc ?_ ?_ _) | omega | (simp <;> omega))⟩
  have b1 := inB_iff2.1 e1
  have b2 := inB_iff2.1 e2
  have b3 := inB_iff2.1 e3
  have b4 := inB_iff2.1 e4
  have hs : Small2 x x := Small2.of (X := 1073741824) (Y := 1073741824) (by omega) (by omega) (by rintro p (rfl | rfl | rfl | rfl | rfl) <;> omega) (by rintro p (rfl | rfl | rfl | rfl | rfl) <;> omega)
  obtain ⟨pa1, pa2⟩ := hs.h x.a x.a (by simp) (by simp)
  obtain ⟨pb1, pb2⟩ := hs.h x.b x.b (by simp) (by simp)
  obtain ⟨pc1, pc2⟩ := hs.h x.c x.c (by simp) (by simp)
  obtain ⟨pd1, pd2⟩ := hs.h x.d x.d (by simp) (by simp)
  obtain ⟨pn1, pn2⟩ := hs.h x.n x.n (by simp) (by simp)
  by_cases hq : x.a * x.a + x.b * x.b + x.c * x.c + x.d * x.d = x.n * x.n
  · have q1 : (x.a * x.a + x.b * x.b + x.c * x.c + x.d * x.d == x.n * x.n) = true := by simpa using hq
    have q2 : (x.a * x.a + x.b * x.b + x.c * x.c + x.d * x.d != x.n * x.n) = false := by simpa using hq
    have u : U x := ⟨by omega, hq⟩
    have cc := fun W : World => refCommon_any x W (by omega) (by omega) (by omega) (by omega) (by omega)
    by_cases hg : g x = 1
    · have hr : r = 0 := by
        rcases h with h | h
        · exact h.2
        · exact absurd ⟨u, hg, by omega⟩ h.1
      subst hr
      rw [hg] at cc
      clear nv h hs hq u hg b1 b2 b3 b4
      go_enter Try.func129, Try.ntmps129
      go_wp2_with (first | (go_at_call 145; refine (within_any _ _ _ _).mono ?_; rintro e w1 ⟨rfl, rfl⟩) | (go_at_call 146; refine (cc _).mono ?_; rintro e w1 ⟨rfl, hw1⟩))
      go_ret
      exact ⟨rfl, by repeat (first | (with_reducible exact Below.refl _ _) | (with_reducible refine Below.setCell ?_ ?_ _) | (with_reducible refine Below.drew ?_) | (with_reducible refine Below.alloc ?_ ?_ _) | (with_reducible refine Below.trans ?_ (Below.mono hw1 ?_)) | (with_reducible exact hw1.size) | omega | (simp <;> omega) | (simp <;> (have s := hw1.size; omega)) | (have s0 := hw1.size; (try simp at s0); (try simp); omega))⟩
    · have hr : r = 1 := nv (g x = 1) (fun v => v.prim) hg
      subst hr
      have g1 : ((g x : Int) == 1) = false := by simp; omega
      have g2 : ((g x : Int) != 1) = true := by simp only [bne, g1]; rfl
      clear nv h hs hq u hg b1 b2 b3 b4
      go_enter Try.func129, Try.ntmps129
      go_wp2_with (first | (go_at_call 145; refine (within_any _ _ _ _).mono ?_; rintro e w1 ⟨rfl, rfl⟩) | (go_at_call 146; refine (cc _).mono ?_; rintro e w1 ⟨rfl, hw1⟩))
      go_ret
      exact ⟨rfl, by repeat (first | (with_reducible exact Below.refl _ _) | (with_reducible refine Below.setCell ?_ ?_ _) | (with_reducible refine Below.drew ?_) | (with_reducible refine Below.alloc ?_ ?_ _) | (with_reducible refine Below.trans ?_ (Below.mono hw1 ?_)) | (with_reducible exact hw1.size) | omega | (simp <;> omega) | (simp <;> (have s := hw1.size; omega)) | (have s0 := hw1.size; (try simp at s0); (try simp); omega))⟩
  · have hr : r = 1 := nv _ (fun v => v.u.len) hq
    subst hr
    have q1 : (x.a * x.a + x.b * x.b + x.c * x.c + x.d * x.d == x.n * x.n) = false := by simpa using hq
    have q2 : (x.a * x.a + x.b * x.b + x.c * x.c + x.d * x.d != x.n * x.n) = true := by simpa using hq
    clear nv h hs hq b1 b2 b3 b4
    go_enter Try.func129, Try.ntmps129
    go_wp2_with (go_at_call 145; refine (within_any _ _ _ _).mono ?_; rintro e w1 ⟨rfl, rfl⟩)
    go_ret
    exact ⟨rfl, by repeat (first | (with_reducible exact Below.refl _ _) | (with_reducible refine Below.setCell ?_ ?_ _) | (with_reducible refine Below.drew ?_) | (with_reducible refine Below.alloc ?_ ?_ _) | omega | (simp <;> omega))⟩
end Go.Proofs.Ytdplojcbfdbgnaa
