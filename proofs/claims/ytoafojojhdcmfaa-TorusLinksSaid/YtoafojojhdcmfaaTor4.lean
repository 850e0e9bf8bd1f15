/- What the program and the document's answers say of sites, places and steps, whatever they are asked.
Conditions: none, but which of the answers is due. -/
import Derived.Test.YtoafojojhdcmfaaTor3
namespace Go.Proofs.Ytoafojojhdcmfaa
set_option linter.unusedVariables false
set_option linter.unusedSimpArgs false
set_option maxRecDepth 1000000
open Go.RowKit
open Tm

def sitesR (a b c r er : Int) : Prop := (¬ Sz a b c ∧ r = 0 ∧ er = 1) ∨ (Sz a b c ∧ r = a * b * c ∧ er = 0)
def siteR (a b c x y z r er : Int) : Prop := (¬ Sz a b c ∧ r = 0 ∧ er = 1) ∨ (Sz a b c ∧ r = site a b c x y z ∧ er = 0)
def placeR (a b c s x y z er : Int) : Prop := (¬ Sz a b c ∧ x = 0 ∧ y = 0 ∧ z = 0 ∧ er = 1) ∨ (Sz a b c ∧ ¬ (0 ≤ s ∧ s < a * b * c) ∧ x = 0 ∧ y = 0 ∧ z = 0 ∧ er = 4) ∨ (Sz a b c ∧ 0 ≤ s ∧ s < a * b * c ∧ x = s % a ∧ y = s / a % b ∧ z = s / a / b ∧ er = 0)
def nextR (a b c s t r er : Int) : Prop := (¬ Sz a b c ∧ r = 0 ∧ er = 1) ∨ (Sz a b c ∧ ¬ (0 ≤ s ∧ s < a * b * c) ∧ r = 0 ∧ er = 4) ∨ (Sz a b c ∧ 0 ≤ s ∧ s < a * b * c ∧ ¬ IsStep t ∧ r = 0 ∧ er = 1) ∨ (Sz a b c ∧ 0 ≤ s ∧ s < a * b * c ∧ IsStep t ∧ r = nx a b c s t ∧ er = 0)
theorem sitesR_ex (a b c : Int) : ∃ r er, sitesR a b c r er := by
  by_cases h : Sz a b c
  · exact ⟨_, _, .inr ⟨h, rfl, rfl⟩⟩
  · exact ⟨_, _, .inl ⟨h, rfl, rfl⟩⟩
theorem siteR_ex (a b c x y z : Int) : ∃ r er, siteR a b c x y z r er := by
  by_cases h : Sz a b c
  · exact ⟨_, _, .inr ⟨h, rfl, rfl⟩⟩
  · exact ⟨_, _, .inl ⟨h, rfl, rfl⟩⟩
theorem placeR_ex (a b c s : Int) : ∃ x y z er, placeR a b c s x y z er := by
  by_cases h : Sz a b c
  · by_cases hs : 0 ≤ s ∧ s < a * b * c
    · exact ⟨_, _, _, _, .inr (.inr ⟨h, hs.1, hs.2, rfl, rfl, rfl, rfl⟩)⟩
    · exact ⟨_, _, _, _, .inr (.inl ⟨h, hs, rfl, rfl, rfl, rfl⟩)⟩
  · exact ⟨_, _, _, _, .inl ⟨h, rfl, rfl, rfl, rfl⟩⟩
theorem nextR_ex (a b c s t : Int) : ∃ r er, nextR a b c s t r er := by
  by_cases h : Sz a b c
  · by_cases hs : 0 ≤ s ∧ s < a * b * c
    · by_cases ht : IsStep t
      · exact ⟨_, _, .inr (.inr (.inr ⟨h, hs.1, hs.2, ht, rfl, rfl⟩))⟩
      · exact ⟨_, _, .inr (.inr (.inl ⟨h, hs.1, hs.2, ht, rfl, rfl⟩))⟩
    · exact ⟨_, _, .inr (.inl ⟨h, hs, rfl, rfl⟩)⟩
  · exact ⟨_, _, .inl ⟨h, rfl, rfl⟩⟩

set_option maxHeartbeats 800000 in
theorem site_any (a b c x y z r er : Int) (w : World) (h : siteR a b c x y z r er) : Calls Try.prog 40 #[.agg #[.int .i64 a, .int .i64 b, .int .i64 c], .int .i64 x, .int .i64 y, .int .i64 z] w fun e w' => e = .returned (.tuple #[.int .i64 r, .int .i64 er]) ∧ Below w.heap.size w w' := by
  rcases h with ⟨h, rfl, rfl⟩ | ⟨h, rfl, rfl⟩
  · have c1 := fun W : World => sizes_any a b c 1 W (.inr ⟨h, rfl⟩)
    clear h
    go_enter Try.func40, Try.ntmps40
    go_wp2_with ((with_reducible refine (c1 _).mono ?_); rintro e w1 ⟨rfl, hw1⟩; have hc1 := Tail.cells hw1)
    go_ret2
    exact ⟨rfl, by repeat (first | (with_reducible exact Below.refl _ _) | (with_reducible refine Below.setCell ?_ ?_ _) | (with_reducible refine Below.drew ?_) | (with_reducible refine Below.alloc ?_ ?_ _) | (with_reducible refine Below.trans ?_ (Below.mono hw1 ?_)) | (with_reducible exact hw1.size) | omega | (simp <;> omega) | (simp <;> (have s := hw1.size; omega)) | (have s0 := hw1.size; (try simp at s0); (try simp); omega))⟩
  · have c1 := fun W : World => sizes_any a b c 0 W (.inl ⟨h, rfl⟩)
    have c2 := fun W : World => siteAt_any a b c x y z W h
    clear h
    generalize site a b c x y z = m at *
    go_enter Try.func40, Try.ntmps40
    go_wp2_with (first | ((with_reducible refine (c1 _).mono ?_); rintro e w1 ⟨rfl, hw1⟩; have hc1 := Tail.cells hw1; have z0 := Nat.lt_of_lt_of_le (n := w.heap.size) (by simp <;> omega) hw1.size) | ((with_reducible refine (c2 _).mono ?_); rintro e w2 ⟨rfl, hw2⟩; have hc2 := Tail.cells hw2))
    go_ret2
    exact ⟨rfl, by repeat (first | (with_reducible exact Below.refl _ _) | (with_reducible refine Below.setCell ?_ ?_ _) | (with_reducible refine Below.drew ?_) | (with_reducible refine Below.alloc ?_ ?_ _) | (with_reducible refine Below.trans ?_ (Below.mono hw2 ?_)) | (with_reducible refine Below.trans ?_ (Below.mono hw1 ?_)) | (with_reducible exact hw2.size) | (with_reducible exact hw1.size) | omega | (simp <;> omega) | (simp <;> (have s := hw2.size; omega)) | (simp <;> (have s := hw1.size; omega)) | (have s0 := hw2.size; (try simp at s0); have s1 := hw1.size; (try simp at s1); (try simp); omega))⟩

set_option maxHeartbeats 800000 in
theorem place_any (a b c s x y z er : Int) (w : World) (h : placeR a b c s x y z er) : Calls Try.prog 39 #[.agg #[.int .i64 a, .int .i64 b, .int .i64 c], .int .i64 s] w fun e w' => e = .returned (.tuple #[.agg #[.int .i64 x, .int .i64 y, .int .i64 z], .int .i64 er]) ∧ Below w.heap.size w w' := by
  rcases h with ⟨h, rfl, rfl, rfl, rfl⟩ | ⟨h, hs, rfl, rfl, rfl, rfl⟩ | ⟨h, h0, h1, rfl, rfl, rfl, rfl⟩
  · have c1 := fun W : World => checkSite_any a b c s 1 W (.inl ⟨h, rfl⟩)
    clear h
    go_enter Try.func39, Try.ntmps39
    go_wp2_with ((with_reducible refine (c1 _).mono ?_); rintro e w1 ⟨rfl, hw1⟩; have hc1 := Tail.cells hw1; have zw10 := Nat.lt_of_lt_of_le (n := w.heap.size) (by simp <;> omega) hw1.size; have zw11 := Nat.lt_of_lt_of_le (n := w.heap.size + 1) (by simp <;> omega) hw1.size)
    refine bodyPost_ret (v := .tuple #[.agg #[.int .i64 0, .int .i64 0, .int .i64 0], .int .i64 1]) ?_ rfl ⟨rfl, ?_⟩
    · simp [results, Try.results39, go_sem, hc1, zw10, zw11]
    · repeat (first | (with_reducible exact Below.refl _ _) | (with_reducible refine Below.setCell ?_ ?_ _) | (with_reducible refine Below.drew ?_) | (with_reducible refine Below.alloc ?_ ?_ _) | (with_reducible refine Below.trans ?_ (Below.mono hw1 ?_)) | (with_reducible exact hw1.size) | omega | (simp <;> omega) | (simp <;> (have s := hw1.size; omega)) | (have s0 := hw1.size; (try simp at s0); (try simp); omega))
  · have c1 := fun W : World => checkSite_any a b c s 4 W (.inr (.inl ⟨h, hs, rfl⟩))
    clear h hs
    go_enter Try.func39, Try.ntmps39
    go_wp2_with ((with_reducible refine (c1 _).mono ?_); rintro e w1 ⟨rfl, hw1⟩; have hc1 := Tail.cells hw1; have zw10 := Nat.lt_of_lt_of_le (n := w.heap.size) (by simp <;> omega) hw1.size; have zw11 := Nat.lt_of_lt_of_le (n := w.heap.size + 1) (by simp <;> omega) hw1.size)
    refine bodyPost_ret (v := .tuple #[.agg #[.int .i64 0, .int .i64 0, .int .i64 0], .int .i64 4]) ?_ rfl ⟨rfl, ?_⟩
    · simp [results, Try.results39, go_sem, hc1, zw10, zw11]
    · repeat (first | (with_reducible exact Below.refl _ _) | (with_reducible refine Below.setCell ?_ ?_ _) | (with_reducible refine Below.drew ?_) | (with_reducible refine Below.alloc ?_ ?_ _) | (with_reducible refine Below.trans ?_ (Below.mono hw1 ?_)) | (with_reducible exact hw1.size) | omega | (simp <;> omega) | (simp <;> (have s := hw1.size; omega)) | (have s0 := hw1.size; (try simp at s0); (try simp); omega))
  · have c1 := fun W : World => checkSite_any a b c s 0 W (.inr (.inr ⟨h, h0, h1, rfl⟩))
    have c2 := fun W : World => placeOf_any a b c s W h h0 h1
    clear h h0 h1
    generalize s % a = x at *
    generalize s / a % b = y at *
    generalize s / a / b = z at *
    go_enter Try.func39, Try.ntmps39
    go_wp2_with (first | ((with_reducible refine (c1 _).mono ?_); rintro e w1 ⟨rfl, hw1⟩; have hc1 := Tail.cells hw1; have zw10 := Nat.lt_of_lt_of_le (n := w.heap.size) (by simp <;> omega) hw1.size; have zw11 := Nat.lt_of_lt_of_le (n := w.heap.size + 1) (by simp <;> omega) hw1.size) | ((with_reducible refine (c2 _).mono ?_); rintro e w2 ⟨rfl, hw2⟩; have hc2 := Tail.cells hw2; have z20 := Nat.lt_of_lt_of_le zw10 hw2.size; have z21 := Nat.lt_of_lt_of_le zw11 hw2.size))
    refine bodyPost_ret (v := .tuple #[.agg #[.int .i64 x, .int .i64 y, .int .i64 z], .int .i64 0]) ?_ rfl ⟨rfl, ?_⟩
    · simp [results, Try.results39, go_sem, hc1, hc2, zw10, zw11, z20, z21]
    · repeat (first | (with_reducible exact Below.refl _ _) | (with_reducible refine Below.setCell ?_ ?_ _) | (with_reducible refine Below.drew ?_) | (with_reducible refine Below.alloc ?_ ?_ _) | (with_reducible refine Below.trans ?_ (Below.mono hw2 ?_)) | (with_reducible refine Below.trans ?_ (Below.mono hw1 ?_)) | (with_reducible exact hw2.size) | (with_reducible exact hw1.size) | omega | (simp <;> omega) | (simp <;> (have s := hw2.size; omega)) | (simp <;> (have s := hw1.size; omega)) | (have s0 := hw2.size; (try simp at s0); have s1 := hw1.size; (try simp at s1); (try simp); omega))

set_option maxHeartbeats 800000 in
theorem nextO_any (a b c s t r er : Int) (w : World) (h : nextR a b c s t r er) : Calls Try.prog 80 #[.agg #[.int .i64 a, .int .i64 b, .int .i64 c], .int .i64 s, .int .i64 t] w fun e w' => e = .returned (.tuple #[.int .i64 r, .int .i64 er]) ∧ Below w.heap.size w w' := by
  rcases h with ⟨h, rfl, rfl⟩ | ⟨h, hs, rfl, rfl⟩ | ⟨h, h0, h1, ht, rfl, rfl⟩ | ⟨h, h0, h1, ht, rfl, rfl⟩
  · have c1 := fun W : World => checkSite_any a b c s 1 W (.inl ⟨h, rfl⟩)
    clear h
    go_enter Try.func80, Try.ntmps80
    go_wp2_with ((with_reducible refine (c1 _).mono ?_); rintro e w1 ⟨rfl, hw1⟩; have hc1 := Tail.cells hw1)
    go_ret2
    exact ⟨rfl, by repeat (first | (with_reducible exact Below.refl _ _) | (with_reducible refine Below.setCell ?_ ?_ _) | (with_reducible refine Below.drew ?_) | (with_reducible refine Below.alloc ?_ ?_ _) | (with_reducible refine Below.trans ?_ (Below.mono hw1 ?_)) | (with_reducible exact hw1.size) | omega | (simp <;> omega) | (simp <;> (have s := hw1.size; omega)) | (have s0 := hw1.size; (try simp at s0); (try simp); omega))⟩
  · have c1 := fun W : World => checkSite_any a b c s 4 W (.inr (.inl ⟨h, hs, rfl⟩))
    clear h hs
    go_enter Try.func80, Try.ntmps80
    go_wp2_with ((with_reducible refine (c1 _).mono ?_); rintro e w1 ⟨rfl, hw1⟩; have hc1 := Tail.cells hw1)
    go_ret2
    exact ⟨rfl, by repeat (first | (with_reducible exact Below.refl _ _) | (with_reducible refine Below.setCell ?_ ?_ _) | (with_reducible refine Below.drew ?_) | (with_reducible refine Below.alloc ?_ ?_ _) | (with_reducible refine Below.trans ?_ (Below.mono hw1 ?_)) | (with_reducible exact hw1.size) | omega | (simp <;> omega) | (simp <;> (have s := hw1.size; omega)) | (have s0 := hw1.size; (try simp at s0); (try simp); omega))⟩
  · have c1 := fun W : World => checkSite_any a b c s 0 W (.inr (.inr ⟨h, h0, h1, rfl⟩))
    have c3 := fun W : World => isStep_any t W false (.inr ⟨ht, rfl⟩)
    clear h h0 h1 ht
    go_enter Try.func80, Try.ntmps80
    go_wp2_with (first | ((with_reducible refine (c1 _).mono ?_); rintro e w1 ⟨rfl, hw1⟩; have hc1 := Tail.cells hw1; have z0 := Nat.lt_of_lt_of_le (n := w.heap.size) (by simp <;> omega) hw1.size) | ((with_reducible refine (c3 _).mono ?_); rintro e w3 ⟨rfl, rfl⟩))
    go_ret2
    exact ⟨rfl, by repeat (first | (with_reducible exact Below.refl _ _) | (with_reducible refine Below.setCell ?_ ?_ _) | (with_reducible refine Below.drew ?_) | (with_reducible refine Below.alloc ?_ ?_ _) | (with_reducible refine Below.trans ?_ (Below.mono hw1 ?_)) | (with_reducible exact hw1.size) | omega | (simp <;> omega) | (simp <;> (have s := hw1.size; omega)) | (have s0 := hw1.size; (try simp at s0); (try simp); omega))⟩
  · have c1 := fun W : World => checkSite_any a b c s 0 W (.inr (.inr ⟨h, h0, h1, rfl⟩))
    have c2 := fun W : World => next_any a b c s t W h h0 h1 ht
    have c3 := fun W : World => isStep_any t W true (.inl ⟨ht, rfl⟩)
    clear h h0 h1 ht
    generalize nx a b c s t = m at *
    go_enter Try.func80, Try.ntmps80
    go_wp2_with (first | ((with_reducible refine (c1 _).mono ?_); rintro e w1 ⟨rfl, hw1⟩; have hc1 := Tail.cells hw1; have z0 := Nat.lt_of_lt_of_le (n := w.heap.size) (by simp <;> omega) hw1.size) | ((with_reducible refine (c3 _).mono ?_); rintro e w3 ⟨rfl, rfl⟩) | ((with_reducible refine (c2 _).mono ?_); rintro e w2 ⟨rfl, hw2⟩; have hc2 := Tail.cells hw2))
    go_ret2
    exact ⟨rfl, by repeat (first | (with_reducible exact Below.refl _ _) | (with_reducible refine Below.setCell ?_ ?_ _) | (with_reducible refine Below.drew ?_) | (with_reducible refine Below.alloc ?_ ?_ _) | (with_reducible refine Below.trans ?_ (Below.mono hw2 ?_)) | (with_reducible refine Below.trans ?_ (Below.mono hw1 ?_)) | (with_reducible exact hw2.size) | (with_reducible exact hw1.size) | omega | (simp <;> omega) | (simp <;> (have s := hw2.size; omega)) | (simp <;> (have s := hw1.size; omega)) | (have s0 := hw2.size; (try simp at s0); have s1 := hw1.size; (try simp at s1); (try simp); omega))⟩

end Go.Proofs.Ytoafojojhdcmfaa
