/- How large a residual may be, as the program and the document's answers find it.
Conditions: none. -/
import Derived.Test.YtmnlfojcofdaeaaSgnC
namespace Go.Proofs.Ytmnlfojcofdaeaa
set_option linter.unusedVariables false
set_option linter.unusedSimpArgs false
set_option maxRecDepth 1000000
open Go.RowKit
open Um Tm Fm

/-- what is allowed, and the error -/
def alR (a b c m r er : Int) : Prop := (¬ Sz a b c ∧ r = 0 ∧ er = 1) ∨ (Sz a b c ∧ ¬ IsM m ∧ r = 0 ∧ er = 1) ∨ (Sz a b c ∧ IsM m ∧ r = (4 * m + 16) * (4 * m + 16) * 4 * (a * b * c) ∧ er = 0)
theorem alR_ex (a b c m : Int) : ∃ r er, alR a b c m r er := by
  by_cases h : Sz a b c
  · by_cases h1 : IsM m
    · exact ⟨_, _, .inr (.inr ⟨h, h1, rfl, rfl⟩)⟩
    · exact ⟨_, _, .inr (.inl ⟨h, h1, rfl, rfl⟩)⟩
  · exact ⟨_, _, .inl ⟨h, rfl, rfl⟩⟩
theorem isM_cases {m : Int} (h : IsM m) : m = 1 ∨ m = 2 ∨ m = 3 ∨ m = 4 ∨ m = 5 ∨ m = 6 ∨ m = 7 ∨ m = 8 ∨ m = 9 ∨ m = 10 := by
  obtain ⟨h1, h2⟩ := h; omega
set_option maxHeartbeats 3200000 in
theorem allowed_any (a b c m r er : Int) (w : World) (h : alR a b c m r er) : Calls Try.prog 40 #[.agg #[.int .i64 a, .int .i64 b, .int .i64 c], .int .i64 m] w fun e w' => e = .returned (.tuple #[.int .i64 r, .int .i64 er]) ∧ Below w.heap.size w w' := by
  rcases h with ⟨h, rfl, rfl⟩ | ⟨h, hm, rfl, rfl⟩ | ⟨h, hm, rfl, rfl⟩
  · have c1 := fun W : World => sites_any a b c 0 1 W (.inl ⟨h, rfl, rfl⟩)
    clear h
    go_enter Try.func40, Try.ntmps40
    go_wp2_with ((with_reducible refine (c1 _).mono ?_); rintro e w1 ⟨rfl, hw1⟩)
    go_ret2
    exact ⟨rfl, by repeat (first | (with_reducible exact Below.refl _ _) | (with_reducible refine Below.setCell ?_ ?_ _) | (with_reducible refine Below.drew ?_) | (with_reducible refine Below.alloc ?_ ?_ _) | (with_reducible refine Below.trans ?_ (Below.mono hw1 ?_)) | (with_reducible exact hw1.size) | omega | (simp <;> omega) | (simp <;> (have s := hw1.size; omega)) | (have s0 := hw1.size; (try simp at s0); (try simp); omega))⟩
  · have c1 := fun W : World => sites_any a b c (a * b * c) 0 W (.inr ⟨h, rfl, rfl⟩)
    have c2 := fun W : World => isMass_any m W false (.inr ⟨hm, rfl⟩)
    clear h hm
    go_enter Try.func40, Try.ntmps40
    go_wp2_with (first | ((with_reducible refine (c1 _).mono ?_); rintro e w1 ⟨rfl, hw1⟩) | ((with_reducible refine (c2 _).mono ?_); rintro e w2 ⟨rfl, rfl⟩))
    go_ret2
    exact ⟨rfl, by repeat (first | (with_reducible exact Below.refl _ _) | (with_reducible refine Below.setCell ?_ ?_ _) | (with_reducible refine Below.drew ?_) | (with_reducible refine Below.alloc ?_ ?_ _) | (with_reducible refine Below.trans ?_ (Below.mono hw1 ?_)) | (with_reducible exact hw1.size) | omega | (simp <;> omega) | (simp <;> (have s := hw1.size; omega)) | (have s0 := hw1.size; (try simp at s0); (try simp); omega))⟩
  · have c1 := fun W : World => sites_any a b c (a * b * c) 0 W (.inr ⟨h, rfl, rfl⟩)
    have c2 := fun W : World => isMass_any m W true (.inl ⟨hm, rfl⟩)
    obtain ⟨-, -, p3, -⟩ := mul_rng h.a1 h.a4 h.b1 h.b4 h.c1 h.c4
    have p4 := h.p
    clear h
    generalize a * b * c = n at *
    rcases isM_cases hm with rfl | rfl | rfl | rfl | rfl | rfl | rfl | rfl | rfl | rfl
    all_goals
      clear hm
      go_enter Try.func40, Try.ntmps40
      go_wp2_with (first | ((with_reducible refine (c1 _).mono ?_); rintro e w1 ⟨rfl, hw1⟩) | ((with_reducible refine (c2 _).mono ?_); rintro e w2 ⟨rfl, rfl⟩))
      go_ret2
      exact ⟨rfl, by repeat (first | (with_reducible exact Below.refl _ _) | (with_reducible refine Below.setCell ?_ ?_ _) | (with_reducible refine Below.drew ?_) | (with_reducible refine Below.alloc ?_ ?_ _) | (with_reducible refine Below.trans ?_ (Below.mono hw1 ?_)) | (with_reducible exact hw1.size) | omega | (simp <;> omega) | (simp <;> (have s := hw1.size; omega)) | (have s0 := hw1.size; (try simp at s0); (try simp); omega))⟩
theorem four_prod (k : Int) {a b c : Int} (h : Sz a b c) (hk0 : 0 ≤ k) (hk : k ≤ 12544) : (0 ≤ k * a ∧ k * a ≤ 50176) ∧ (0 ≤ k * a * b ∧ k * a * b ≤ 200704) ∧ k * a * b * c = k * (a * b * c) ∧ (0 ≤ k * a * b * c ∧ k * a * b * c ≤ 802816) := by
  rcases four h.a1 h.a4 with rfl | rfl | rfl | rfl <;> rcases four h.b1 h.b4 with rfl | rfl | rfl | rfl <;> rcases four h.c1 h.c4 with rfl | rfl | rfl | rfl <;> omega
set_option maxHeartbeats 3200000 in
theorem refAllowed_any (a b c m r er : Int) (w : World) (h : alR a b c m r er) : Calls Try.prog 41 #[.agg #[.int .i64 a, .int .i64 b, .int .i64 c], .int .i64 m] w fun e w' => e = .returned (.tuple #[.int .i64 r, .int .i64 er]) ∧ Below w.heap.size w w' := by
  rcases h with ⟨h, rfl, rfl⟩ | ⟨h, hm, rfl, rfl⟩ | ⟨h, hm, rfl, rfl⟩
  · have c1 := fun W : World => refSizes_any a b c 1 W (.inr ⟨h, rfl⟩)
    clear h
    go_enter Try.func41, Try.ntmps41
    go_wp2_with ((with_reducible refine (c1 _).mono ?_); rintro e w1 ⟨rfl, hw1⟩)
    go_ret2
    exact ⟨rfl, by repeat (first | (with_reducible exact Below.refl _ _) | (with_reducible refine Below.setCell ?_ ?_ _) | (with_reducible refine Below.drew ?_) | (with_reducible refine Below.alloc ?_ ?_ _) | (with_reducible refine Below.trans ?_ (Below.mono hw1 ?_)) | (with_reducible exact hw1.size) | omega | (simp <;> omega) | (simp <;> (have s := hw1.size; omega)) | (have s0 := hw1.size; (try simp at s0); (try simp); omega))⟩
  · have c1 := fun W : World => refSizes_any a b c 0 W (.inl ⟨h, rfl⟩)
    have c2 := fun W : World => within7_any m 1 10 W false (.inr ⟨hm, rfl⟩)
    clear h hm
    go_enter Try.func41, Try.ntmps41
    go_wp2_with (first | ((with_reducible refine (c1 _).mono ?_); rintro e w1 ⟨rfl, hw1⟩; have hc1 := Tail.cells hw1; have zw10 := Nat.lt_of_lt_of_le (n := w.heap.size) (by simp <;> omega) hw1.size) | ((with_reducible refine (c2 _).mono ?_); rintro e w2 ⟨rfl, rfl⟩))
    go_ret2
    exact ⟨rfl, by repeat (first | (with_reducible exact Below.refl _ _) | (with_reducible refine Below.setCell ?_ ?_ _) | (with_reducible refine Below.drew ?_) | (with_reducible refine Below.alloc ?_ ?_ _) | (with_reducible refine Below.trans ?_ (Below.mono hw1 ?_)) | (with_reducible exact hw1.size) | omega | (simp <;> omega) | (simp <;> (have s := hw1.size; omega)) | (have s0 := hw1.size; (try simp at s0); (try simp); omega))⟩
  · have c1 := fun W : World => refSizes_any a b c 0 W (.inl ⟨h, rfl⟩)
    have c2 := fun W : World => within7_any m 1 10 W true (.inl ⟨hm.1, hm.2, rfl⟩)
    rcases isM_cases hm with rfl | rfl | rfl | rfl | rfl | rfl | rfl | rfl | rfl | rfl
    · obtain ⟨⟨k0, k1⟩, ⟨k2, k3⟩, k4, ⟨k5, k6⟩⟩ := four_prod 1600 h (by decide) (by decide)
      have K4 := Lib.hid k4
      have x1 := h.a1
      have x4 := h.a4
      clear h hm k4
      go_enter Try.func41, Try.ntmps41
      go_wp2_with (first | ((with_reducible refine (c1 _).mono ?_); rintro e w1 ⟨rfl, hw1⟩; have hc1 := Tail.cells hw1; have zw10 := Nat.lt_of_lt_of_le (n := w.heap.size) (by simp <;> omega) hw1.size) | ((with_reducible refine (c2 _).mono ?_); rintro e w2 ⟨rfl, rfl⟩))
      go_ret2
      exact ⟨by rw [show (4 * (1 : Int) + 16) * (4 * 1 + 16) * 4 = 1600 from rfl, ← K4.out]; rfl, by repeat (first | (with_reducible exact Below.refl _ _) | (with_reducible refine Below.setCell ?_ ?_ _) | (with_reducible refine Below.drew ?_) | (with_reducible refine Below.alloc ?_ ?_ _) | (with_reducible refine Below.trans ?_ (Below.mono hw1 ?_)) | (with_reducible exact hw1.size) | omega | (simp <;> omega) | (simp <;> (have s := hw1.size; omega)) | (have s0 := hw1.size; (try simp at s0); (try simp); omega))⟩
    · obtain ⟨⟨k0, k1⟩, ⟨k2, k3⟩, k4, ⟨k5, k6⟩⟩ := four_prod 2304 h (by decide) (by decide)
      have K4 := Lib.hid k4
      have x1 := h.a1
      have x4 := h.a4
      clear h hm k4
      go_enter Try.func41, Try.ntmps41
      go_wp2_with (first | ((with_reducible refine (c1 _).mono ?_); rintro e w1 ⟨rfl, hw1⟩; have hc1 := Tail.cells hw1; have zw10 := Nat.lt_of_lt_of_le (n := w.heap.size) (by simp <;> omega) hw1.size) | ((with_reducible refine (c2 _).mono ?_); rintro e w2 ⟨rfl, rfl⟩))
      go_ret2
      exact ⟨by rw [show (4 * (2 : Int) + 16) * (4 * 2 + 16) * 4 = 2304 from rfl, ← K4.out]; rfl, by repeat (first | (with_reducible exact Below.refl _ _) | (with_reducible refine Below.setCell ?_ ?_ _) | (with_reducible refine Below.drew ?_) | (with_reducible refine Below.alloc ?_ ?_ _) | (with_reducible refine Below.trans ?_ (Below.mono hw1 ?_)) | (with_reducible exact hw1.size) | omega | (simp <;> omega) | (simp <;> (have s := hw1.size; omega)) | (have s0 := hw1.size; (try simp at s0); (try simp); omega))⟩
    · obtain ⟨⟨k0, k1⟩, ⟨k2, k3⟩, k4, ⟨k5, k6⟩⟩ := four_prod 3136 h (by decide) (by decide)
      have K4 := Lib.hid k4
      have x1 := h.a1
      have x4 := h.a4
      clear h hm k4
      go_enter Try.func41, Try.ntmps41
      go_wp2_with (first | ((with_reducible refine (c1 _).mono ?_); rintro e w1 ⟨rfl, hw1⟩; have hc1 := Tail.cells hw1; have zw10 := Nat.lt_of_lt_of_le (n := w.heap.size) (by simp <;> omega) hw1.size) | ((with_reducible refine (c2 _).mono ?_); rintro e w2 ⟨rfl, rfl⟩))
      go_ret2
      exact ⟨by rw [show (4 * (3 : Int) + 16) * (4 * 3 + 16) * 4 = 3136 from rfl, ← K4.out]; rfl, by repeat (first | (with_reducible exact Below.refl _ _) | (with_reducible refine Below.setCell ?_ ?_ _) | (with_reducible refine Below.drew ?_) | (with_reducible refine Below.alloc ?_ ?_ _) | (with_reducible refine Below.trans ?_ (Below.mono hw1 ?_)) | (with_reducible exact hw1.size) | omega | (simp <;> omega) | (simp <;> (have s := hw1.size; omega)) | (have s0 := hw1.size; (try simp at s0); (try simp); omega))⟩
    · obtain ⟨⟨k0, k1⟩, ⟨k2, k3⟩, k4, ⟨k5, k6⟩⟩ := four_prod 4096 h (by decide) (by decide)
      have K4 := Lib.hid k4
      have x1 := h.a1
      have x4 := h.a4
      clear h hm k4
      go_enter Try.func41, Try.ntmps41
      go_wp2_with (first | ((with_reducible refine (c1 _).mono ?_); rintro e w1 ⟨rfl, hw1⟩; have hc1 := Tail.cells hw1; have zw10 := Nat.lt_of_lt_of_le (n := w.heap.size) (by simp <;> omega) hw1.size) | ((with_reducible refine (c2 _).mono ?_); rintro e w2 ⟨rfl, rfl⟩))
      go_ret2
      exact ⟨by rw [show (4 * (4 : Int) + 16) * (4 * 4 + 16) * 4 = 4096 from rfl, ← K4.out]; rfl, by repeat (first | (with_reducible exact Below.refl _ _) | (with_reducible refine Below.setCell ?_ ?_ _) | (with_reducible refine Below.drew ?_) | (with_reducible refine Below.alloc ?_ ?_ _) | (with_reducible refine Below.trans ?_ (Below.mono hw1 ?_)) | (with_reducible exact hw1.size) | omega | (simp <;> omega) | (simp <;> (have s := hw1.size; omega)) | (have s0 := hw1.size; (try simp at s0); (try simp); omega))⟩
    · obtain ⟨⟨k0, k1⟩, ⟨k2, k3⟩, k4, ⟨k5, k6⟩⟩ := four_prod 5184 h (by decide) (by decide)
      have K4 := Lib.hid k4
      have x1 := h.a1
      have x4 := h.a4
      clear h hm k4
      go_enter Try.func41, Try.ntmps41
      go_wp2_with (first | ((with_reducible refine (c1 _).mono ?_); rintro e w1 ⟨rfl, hw1⟩; have hc1 := Tail.cells hw1; have zw10 := Nat.lt_of_lt_of_le (n := w.heap.size) (by simp <;> omega) hw1.size) | ((with_reducible refine (c2 _).mono ?_); rintro e w2 ⟨rfl, rfl⟩))
      go_ret2
      exact ⟨by rw [show (4 * (5 : Int) + 16) * (4 * 5 + 16) * 4 = 5184 from rfl, ← K4.out]; rfl, by repeat (first | (with_reducible exact Below.refl _ _) | (with_reducible refine Below.setCell ?_ ?_ _) | (with_reducible refine Below.drew ?_) | (with_reducible refine Below.alloc ?_ ?_ _) | (with_reducible refine Below.trans ?_ (Below.mono hw1 ?_)) | (with_reducible exact hw1.size) | omega | (simp <;> omega) | (simp <;> (have s := hw1.size; omega)) | (have s0 := hw1.size; (try simp at s0); (try simp); omega))⟩
    · obtain ⟨⟨k0, k1⟩, ⟨k2, k3⟩, k4, ⟨k5, k6⟩⟩ := four_prod 6400 h (by decide) (by decide)
      have K4 := Lib.hid k4
      have x1 := h.a1
      have x4 := h.a4
      clear h hm k4
      go_enter Try.func41, Try.ntmps41
      go_wp2_with (first | ((with_reducible refine (c1 _).mono ?_); rintro e w1 ⟨rfl, hw1⟩; have hc1 := Tail.cells hw1; have zw10 := Nat.lt_of_lt_of_le (n := w.heap.size) (by simp <;> omega) hw1.size) | ((with_reducible refine (c2 _).mono ?_); rintro e w2 ⟨rfl, rfl⟩))
      go_ret2
      exact ⟨by rw [show (4 * (6 : Int) + 16) * (4 * 6 + 16) * 4 = 6400 from rfl, ← K4.out]; rfl, by repeat (first | (with_reducible exact Below.refl _ _) | (with_reducible refine Below.setCell ?_ ?_ _) | (with_reducible refine Below.drew ?_) | (with_reducible refine Below.alloc ?_ ?_ _) | (with_reducible refine Below.trans ?_ (Below.mono hw1 ?_)) | (with_reducible exact hw1.size) | omega | (simp <;> omega) | (simp <;> (have s := hw1.size; omega)) | (have s0 := hw1.size; (try simp at s0); (try simp); omega))⟩
    · obtain ⟨⟨k0, k1⟩, ⟨k2, k3⟩, k4, ⟨k5, k6⟩⟩ := four_prod 7744 h (by decide) (by decide)
      have K4 := Lib.hid k4
      have x1 := h.a1
      have x4 := h.a4
      clear h hm k4
      go_enter Try.func41, Try.ntmps41
      go_wp2_with (first | ((with_reducible refine (c1 _).mono ?_); rintro e w1 ⟨rfl, hw1⟩; have hc1 := Tail.cells hw1; have zw10 := Nat.lt_of_lt_of_le (n := w.heap.size) (by simp <;> omega) hw1.size) | ((with_reducible refine (c2 _).mono ?_); rintro e w2 ⟨rfl, rfl⟩))
      go_ret2
      exact ⟨by rw [show (4 * (7 : Int) + 16) * (4 * 7 + 16) * 4 = 7744 from rfl, ← K4.out]; rfl, by repeat (first | (with_reducible exact Below.refl _ _) | (with_reducible refine Below.setCell ?_ ?_ _) | (with_reducible refine Below.drew ?_) | (with_reducible refine Below.alloc ?_ ?_ _) | (with_reducible refine Below.trans ?_ (Below.mono hw1 ?_)) | (with_reducible exact hw1.size) | omega | (simp <;> omega) | (simp <;> (have s := hw1.size; omega)) | (have s0 := hw1.size; (try simp at s0); (try simp); omega))⟩
    · obtain ⟨⟨k0, k1⟩, ⟨k2, k3⟩, k4, ⟨k5, k6⟩⟩ := four_prod 9216 h (by decide) (by decide)
      have K4 := Lib.hid k4
      have x1 := h.a1
      have x4 := h.a4
      clear h hm k4
      go_enter Try.func41, Try.ntmps41
      go_wp2_with (first | ((with_reducible refine (c1 _).mono ?_); rintro e w1 ⟨rfl, hw1⟩; have hc1 := Tail.cells hw1; have zw10 := Nat.lt_of_lt_of_le (n := w.heap.size) (by simp <;> omega) hw1.size) | ((with_reducible refine (c2 _).mono ?_); rintro e w2 ⟨rfl, rfl⟩))
      go_ret2
      exact ⟨by rw [show (4 * (8 : Int) + 16) * (4 * 8 + 16) * 4 = 9216 from rfl, ← K4.out]; rfl, by repeat (first | (with_reducible exact Below.refl _ _) | (with_reducible refine Below.setCell ?_ ?_ _) | (with_reducible refine Below.drew ?_) | (with_reducible refine Below.alloc ?_ ?_ _) | (with_reducible refine Below.trans ?_ (Below.mono hw1 ?_)) | (with_reducible exact hw1.size) | omega | (simp <;> omega) | (simp <;> (have s := hw1.size; omega)) | (have s0 := hw1.size; (try simp at s0); (try simp); omega))⟩
    · obtain ⟨⟨k0, k1⟩, ⟨k2, k3⟩, k4, ⟨k5, k6⟩⟩ := four_prod 10816 h (by decide) (by decide)
      have K4 := Lib.hid k4
      have x1 := h.a1
      have x4 := h.a4
      clear h hm k4
      go_enter Try.func41, Try.ntmps41
      go_wp2_with (first | ((with_reducible refine (c1 _).mono ?_); rintro e w1 ⟨rfl, hw1⟩; have hc1 := Tail.cells hw1; have zw10 := Nat.lt_of_lt_of_le (n := w.heap.size) (by simp <;> omega) hw1.size) | ((with_reducible refine (c2 _).mono ?_); rintro e w2 ⟨rfl, rfl⟩))
      go_ret2
      exact ⟨by rw [show (4 * (9 : Int) + 16) * (4 * 9 + 16) * 4 = 10816 from rfl, ← K4.out]; rfl, by repeat (first | (with_reducible exact Below.refl _ _) | (with_reducible refine Below.setCell ?_ ?_ _) | (with_reducible refine Below.drew ?_) | (with_reducible refine Below.alloc ?_ ?_ _) | (with_reducible refine Below.trans ?_ (Below.mono hw1 ?_)) | (with_reducible exact hw1.size) | omega | (simp <;> omega) | (simp <;> (have s := hw1.size; omega)) | (have s0 := hw1.size; (try simp at s0); (try simp); omega))⟩
    · obtain ⟨⟨k0, k1⟩, ⟨k2, k3⟩, k4, ⟨k5, k6⟩⟩ := four_prod 12544 h (by decide) (by decide)
      have K4 := Lib.hid k4
      have x1 := h.a1
      have x4 := h.a4
      clear h hm k4
      go_enter Try.func41, Try.ntmps41
      go_wp2_with (first | ((with_reducible refine (c1 _).mono ?_); rintro e w1 ⟨rfl, hw1⟩; have hc1 := Tail.cells hw1; have zw10 := Nat.lt_of_lt_of_le (n := w.heap.size) (by simp <;> omega) hw1.size) | ((with_reducible refine (c2 _).mono ?_); rintro e w2 ⟨rfl, rfl⟩))
      go_ret2
      exact ⟨by rw [show (4 * (10 : Int) + 16) * (4 * 10 + 16) * 4 = 12544 from rfl, ← K4.out]; rfl, by repeat (first | (with_reducible exact Below.refl _ _) | (with_reducible refine Below.setCell ?_ ?_ _) | (with_reducible refine Below.drew ?_) | (with_reducible refine Below.alloc ?_ ?_ _) | (with_reducible refine Below.trans ?_ (Below.mono hw1 ?_)) | (with_reducible exact hw1.size) | omega | (simp <;> omega) | (simp <;> (have s := hw1.size; omega)) | (have s0 := hw1.size; (try simp at s0); (try simp); omega))⟩
end Go.Proofs.Ytmnlfojcofdaeaa
