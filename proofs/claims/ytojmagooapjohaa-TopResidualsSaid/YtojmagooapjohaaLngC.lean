/- How long a field and its vectors are.
Conditions: none. -/
import Derived.Test.YtojmagooapjohaaFermB
namespace Go.Proofs.Ytojmagooapjohaa
set_option linter.unusedVariables false
set_option linter.unusedSimpArgs false
set_option maxRecDepth 1000000
open Go.RowKit
open Um Tm Fm

set_option maxHeartbeats 1600000 in
theorem long71_any (a b c : Int) (ao po : Option Addr) (cap pc l n sb : Nat) (r : Bool) (w : World) (hs : w.cell? ⟨sb, 0, none⟩ = some (.slice po n pc)) (h : (n ≤ 100 ∧ l ≤ 200 ∧ r = false) ∨ ((100 < n ∨ 200 < l) ∧ r = true)) : Calls Try.prog 19 #[.agg #[.int .i64 a, .int .i64 b, .int .i64 c, .slice ao l cap], .slice (some ⟨sb, 0, none⟩) 1 1] w fun e w' => e = .returned (.bool r) ∧ Below w.heap.size w w' := by
  have hsl : sb < w.heap.size := World.block_lt_of_cell? _ _ hs
  by_cases h1 : 100 < n
  · obtain rfl : r = true := by rcases h with ⟨h, -⟩ | ⟨-, h⟩; omega; exact h
    have i1 : (100 : Int) < (n : Int) := by omega
    clear h
    go_enter Try.func19, Try.ntmps19
    go_wp2
    refine wp_loop_rounds 1 ?_
    rw [rounds_succ]
    go_wp2
    go_ret
    exact ⟨rfl, by repeat (first | (with_reducible exact Below.refl _ _) | (with_reducible refine Below.setCell ?_ ?_ _) | (with_reducible refine Below.drew ?_) | (with_reducible refine Below.alloc ?_ ?_ _) | omega | (simp <;> omega))⟩
  · have i1 : ¬ (100 : Int) < (n : Int) := by omega
    obtain ⟨d, hd⟩ : ∃ d, decide ((200 : Int) < (l : Int)) = d := ⟨_, rfl⟩
    obtain rfl : r = d := by
      rcases h with ⟨-, h, h2⟩ | ⟨h, h2⟩
      · rw [h2, ← hd]; exact (decide_eq_false (by omega)).symm
      · rw [h2, ← hd]; exact (decide_eq_true (by omega)).symm
    clear h
    go_enter Try.func19, Try.ntmps19
    go_wp2
    refine wp_loop_rounds 2 ?_
    rw [rounds_succ]
    go_wp2
    rw [rounds_succ]
    go_wp2
    go_ret
    exact ⟨rfl, by repeat (first | (with_reducible exact Below.refl _ _) | (with_reducible refine Below.setCell ?_ ?_ _) | (with_reducible refine Below.drew ?_) | (with_reducible refine Below.alloc ?_ ?_ _) | omega | (simp <;> omega))⟩
set_option maxHeartbeats 1600000 in
theorem long72_any (a b c : Int) (ao po qo : Option Addr) (cap pc qc l n m sb : Nat) (r : Bool) (w : World) (hs : w.cell? ⟨sb, 0, none⟩ = some (.slice po n pc)) (ht : w.cell? ⟨sb, 1, none⟩ = some (.slice qo m qc)) (h : (n ≤ 100 ∧ m ≤ 100 ∧ l ≤ 200 ∧ r = false) ∨ ((100 < n ∨ 100 < m ∨ 200 < l) ∧ r = true)) : Calls Try.prog 19 #[.agg #[.int .i64 a, .int .i64 b, .int .i64 c, .slice ao l cap], .slice (some ⟨sb, 0, none⟩) 2 2] w fun e w' => e = .returned (.bool r) ∧ Below w.heap.size w w' := by
  have hsl : sb < w.heap.size := World.block_lt_of_cell? _ _ hs
  by_cases h1 : 100 < n
  · obtain rfl : r = true := by rcases h with ⟨h, -⟩ | ⟨-, h⟩; omega; exact h
    have i1 : (100 : Int) < (n : Int) := by omega
    clear h
    go_enter Try.func19, Try.ntmps19
    go_wp2
    refine wp_loop_rounds 1 ?_
    rw [rounds_succ]
    go_wp2
    go_ret
    exact ⟨rfl, by repeat (first | (with_reducible exact Below.refl _ _) | (with_reducible refine Below.setCell ?_ ?_ _) | (with_reducible refine Below.drew ?_) | (with_reducible refine Below.alloc ?_ ?_ _) | omega | (simp <;> omega))⟩
  · have i1 : ¬ (100 : Int) < (n : Int) := by omega
    by_cases h2 : 100 < m
    · obtain rfl : r = true := by rcases h with ⟨-, h, -⟩ | ⟨-, h⟩; omega; exact h
      have i2 : (100 : Int) < (m : Int) := by omega
      clear h
      go_enter Try.func19, Try.ntmps19
      go_wp2
      refine wp_loop_rounds 2 ?_
      rw [rounds_succ]
      go_wp2
      rw [rounds_succ]
      go_wp2
      go_ret
      exact ⟨rfl, by repeat (first | (with_reducible exact Below.refl _ _) | (with_reducible refine Below.setCell ?_ ?_ _) | (with_reducible refine Below.drew ?_) | (with_reducible refine Below.alloc ?_ ?_ _) | omega | (simp <;> omega))⟩
    · have i2 : ¬ (100 : Int) < (m : Int) := by omega
      obtain ⟨d, hd⟩ : ∃ d, decide ((200 : Int) < (l : Int)) = d := ⟨_, rfl⟩
      obtain rfl : r = d := by
        rcases h with ⟨-, -, h, h2⟩ | ⟨h, h2⟩
        · rw [h2, ← hd]; exact (decide_eq_false (by omega)).symm
        · rw [h2, ← hd]; exact (decide_eq_true (by omega)).symm
      clear h
      go_enter Try.func19, Try.ntmps19
      go_wp2
      refine wp_loop_rounds 3 ?_
      rw [rounds_succ]
      go_wp2
      rw [rounds_succ]
      go_wp2
      rw [rounds_succ]
      go_wp2
      go_ret
      exact ⟨rfl, by repeat (first | (with_reducible exact Below.refl _ _) | (with_reducible refine Below.setCell ?_ ?_ _) | (with_reducible refine Below.drew ?_) | (with_reducible refine Below.alloc ?_ ?_ _) | omega | (simp <;> omega))⟩
set_option maxHeartbeats 3200000 in
theorem long73_any (a b c : Int) (ao po qo so : Option Addr) (cap pc qc sc l n m k sb : Nat) (r : Bool) (w : World) (hs : w.cell? ⟨sb, 0, none⟩ = some (.slice po n pc)) (ht : w.cell? ⟨sb, 1, none⟩ = some (.slice qo m qc)) (hu : w.cell? ⟨sb, 2, none⟩ = some (.slice so k sc)) (h : (n ≤ 100 ∧ m ≤ 100 ∧ k ≤ 100 ∧ l ≤ 200 ∧ r = false) ∨ ((100 < n ∨ 100 < m ∨ 100 < k ∨ 200 < l) ∧ r = true)) : Calls Try.prog 19 #[.agg #[.int .i64 a, .int .i64 b, .int .i64 c, .slice ao l cap], .slice (some ⟨sb, 0, none⟩) 3 3] w fun e w' => e = .returned (.bool r) ∧ Below w.heap.size w w' := by
  have hsl : sb < w.heap.size := World.block_lt_of_cell? _ _ hs
  by_cases h1 : 100 < n
  · obtain rfl : r = true := by rcases h with ⟨h, -⟩ | ⟨-, h⟩; omega; exact h
    have i1 : (100 : Int) < (n : Int) := by omega
    clear h
    go_enter Try.func19, Try.ntmps19
    go_wp2
    refine wp_loop_rounds 1 ?_
    rw [rounds_succ]
    go_wp2
    go_ret
    exact ⟨rfl, by repeat (first | (with_reducible exact Below.refl _ _) | (with_reducible refine Below.setCell ?_ ?_ _) | (with_reducible refine Below.drew ?_) | (with_reducible refine Below.alloc ?_ ?_ _) | omega | (simp <;> omega))⟩
  · have i1 : ¬ (100 : Int) < (n : Int) := by omega
    by_cases h2 : 100 < m
    · obtain rfl : r = true := by rcases h with ⟨-, h, -⟩ | ⟨-, h⟩; omega; exact h
      have i2 : (100 : Int) < (m : Int) := by omega
      clear h
      go_enter Try.func19, Try.ntmps19
      go_wp2
      refine wp_loop_rounds 2 ?_
      rw [rounds_succ]
      go_wp2
      rw [rounds_succ]
      go_wp2
      go_ret
      exact ⟨rfl, by repeat (first | (with_reducible exact Below.refl _ _) | (with_reducible refine Below.setCell ?_ ?_ _) | (with_reducible refine Below.drew ?_) | (with_reducible refine Below.alloc ?_ ?_ _) | omega | (simp <;> omega))⟩
    · have i2 : ¬ (100 : Int) < (m : Int) := by omega
      by_cases h3 : 100 < k
      · obtain rfl : r = true := by rcases h with ⟨-, -, h, -⟩ | ⟨-, h⟩; omega; exact h
        have i3 : (100 : Int) < (k : Int) := by omega
        clear h
        go_enter Try.func19, Try.ntmps19
        go_wp2
        refine wp_loop_rounds 3 ?_
        rw [rounds_succ]
        go_wp2
        rw [rounds_succ]
        go_wp2
        rw [rounds_succ]
        go_wp2
        go_ret
        exact ⟨rfl, by repeat (first | (with_reducible exact Below.refl _ _) | (with_reducible refine Below.setCell ?_ ?_ _) | (with_reducible refine Below.drew ?_) | (with_reducible refine Below.alloc ?_ ?_ _) | omega | (simp <;> omega))⟩
      · have i3 : ¬ (100 : Int) < (k : Int) := by omega
        obtain ⟨d, hd⟩ : ∃ d, decide ((200 : Int) < (l : Int)) = d := ⟨_, rfl⟩
        obtain rfl : r = d := by
          rcases h with ⟨-, -, -, h, h2⟩ | ⟨h, h2⟩
          · rw [h2, ← hd]; exact (decide_eq_false (by omega)).symm
          · rw [h2, ← hd]; exact (decide_eq_true (by omega)).symm
        clear h
        go_enter Try.func19, Try.ntmps19
        go_wp2
        refine wp_loop_rounds 4 ?_
        rw [rounds_succ]
        go_wp2
        rw [rounds_succ]
        go_wp2
        rw [rounds_succ]
        go_wp2
        rw [rounds_succ]
        go_wp2
        go_ret
        exact ⟨rfl, by repeat (first | (with_reducible exact Below.refl _ _) | (with_reducible refine Below.setCell ?_ ?_ _) | (with_reducible refine Below.drew ?_) | (with_reducible refine Below.alloc ?_ ?_ _) | omega | (simp <;> omega))⟩
end Go.Proofs.Ytojmagooapjohaa
