/- Step, Draw and Leap, as the program and the document's answers make them.
Conditions: those written at each theorem. -/
import Derived.Test.YtilbhcjnkmeecaaGreatPkDraws
namespace Go.Proofs.YtilbhcjnkmeecaaGreat
set_option linter.unusedVariables false
set_option linter.unusedSimpArgs false
set_option maxRecDepth 1000000
open Go.RowKit
open Cm

def stepR (s r e : Int) : Prop := (IsSeed s ∧ r = nxt s ∧ e = 0) ∨ (¬ IsSeed s ∧ r = 0 ∧ e = 1)
def drawR (s n d t e : Int) : Prop := (IsSeed s ∧ (1 ≤ n ∧ n ≤ 1099511627776) ∧ d = drw s n ∧ t = adv s ∧ e = 0) ∨ (IsSeed s ∧ ¬ (1 ≤ n ∧ n ≤ 1099511627776) ∧ d = 0 ∧ t = 0 ∧ e = 1) ∨ (¬ IsSeed s ∧ d = 0 ∧ t = 0 ∧ e = 1)
set_option maxHeartbeats 800000 in
theorem draw_any (s n d t er : Int) (w : World) (h : drawR s n d t er) : Calls Tryz.prog 42 #[.int .i64 s, .int .i64 n] w fun e w' => e = .returned (.tuple #[.int .i64 d, .int .i64 t, .int .i64 er]) ∧ Below w.heap.size w w' := by
  rcases h with ⟨h, ⟨k1, k2⟩, rfl, rfl, rfl⟩ | ⟨h, k, rfl, rfl, rfl⟩ | ⟨h, rfl, rfl, rfl⟩
  · have c1 := fun W : World => checkSeed_any s 0 W (.inl ⟨h, rfl⟩)
    have c2 := fun (B : Nat) (W : World) hc hf => below_any B s n W h k1 k2 hc hf
    clear h
    generalize drw s n = d at *
    generalize adv s = t at *
    go_enter Tryz.func42, Tryz.ntmps42
    go_wp2_with (first | ((with_reducible refine (c1 _).mono ?_); rintro e w1 ⟨rfl, rfl⟩) | (go_at_call 73; refine (c2 _ _ (by simp [go_sem]) (by simp [go_sem])).mono ?_; rintro e w1 ⟨rfl, rfl⟩))
    refine Tail.region_below (by kernel_rfl) (by kernel_rfl) ?_
    have kc := @Tail.cell_re; have kc1 : ∀ (W : World) (o : Obj) (d : Nat) (os : Array Obj) (a : Addr), a.block ≤ W.heap.size → (Sort.grow (redrawn (W.alloc o) d) os).cell? a = (W.alloc o).cell? a := fun W o d os a h => Tail.cell_re (W.alloc o) d os a (Nat.lt_of_le_of_lt h (by simp))
    repeat (go_big_quiet_step (fail))
    refine wpQuiet_nil ?_
    intro w2 hw2
    go_wp2
    go_ret3
    exact ⟨rfl, by repeat (first | (with_reducible exact Below.refl _ _) | (with_reducible refine Below.setCell ?_ ?_ _) | (with_reducible refine Below.drew ?_) | (with_reducible refine Below.alloc ?_ ?_ _) | (with_reducible refine Below.trans ?_ (Below.mono hw2 ?_)) | (with_reducible exact hw2.size) | omega | (simp <;> omega) | (simp <;> (have s := hw2.size; omega)) | (have s0 := hw2.size; (try simp at s0); (try simp); omega))⟩
  · have c1 := fun W : World => checkSeed_any s 0 W (.inl ⟨h, rfl⟩)
    by_cases k1 : n < 1
    · clear h k
      go_enter Tryz.func42, Tryz.ntmps42
      go_wp2_with ((with_reducible refine (c1 _).mono ?_); rintro e w1 ⟨rfl, rfl⟩)
      go_ret3
      exact ⟨rfl, Below.refl _ _⟩
    · have k2 : 1099511627776 < n := by omega
      clear h k
      go_enter Tryz.func42, Tryz.ntmps42
      go_wp2_with ((with_reducible refine (c1 _).mono ?_); rintro e w1 ⟨rfl, rfl⟩)
      go_ret3
      exact ⟨rfl, Below.refl _ _⟩
  · have c1 := fun W : World => checkSeed_any s 1 W (.inr ⟨h, rfl⟩)
    clear h
    go_enter Tryz.func42, Tryz.ntmps42
    go_wp2_with ((with_reducible refine (c1 _).mono ?_); rintro e w1 ⟨rfl, rfl⟩)
    go_ret3
    exact ⟨rfl, Below.refl _ _⟩
end Go.Proofs.YtilbhcjnkmeecaaGreat
