/- Seeds and draws: the next seed, a draw among a number, and many steps at once, as the program and the document's answers make them.
Conditions: those written at each theorem. -/
import Derived.Test.YtilbhcjnkmeecaaGreatRows
import Derived.Test.YtilbhcjnkmeecaaGreatPkMathA
import Derived.Test.YtilbhcjnkmeecaaGreatPkRegA
import Derived.WalkKit
import Derived.WalkSpells
import Derived.WalkLawsBesides
import Derived.Lib.Hide
import Derived.BigQuiet
import Derived.Deep.DeepFit
namespace Go.Proofs.YtilbhcjnkmeecaaGreat
set_option linter.unusedVariables false
set_option linter.unusedSimpArgs false
set_option maxRecDepth 1000000
open Go.RowKit
open Cm

set_option maxHeartbeats 400000 in
theorem chNext_any (s : Int) (w : World) (h : IsSeed s) : Calls Tryz.prog 98 #[.int .i64 s] w fun e w' => e = .returned (.int .i64 (nxt s)) ∧ w = w' := by
  obtain ⟨h1, h2⟩ := h
  go_enter Tryz.func98, Tryz.ntmps98
  go_wp2
  go_ret
  exact ⟨rfl, rfl⟩
/-- the error of a seed -/
def sdR (s r : Int) : Prop := (IsSeed s ∧ r = 0) ∨ (¬ IsSeed s ∧ r = 1)
set_option maxHeartbeats 400000 in
theorem checkSeed_any (s r : Int) (w : World) (h : sdR s r) : Calls Tryz.prog 72 #[.int .i64 s] w fun e w' => e = .returned (.int .i64 r) ∧ w = w' := by
  rcases h with ⟨⟨h1, h2⟩, rfl⟩ | ⟨h, rfl⟩
  · go_enter Tryz.func72, Tryz.ntmps72
    go_wp2
    go_ret
    exact ⟨rfl, rfl⟩
  · unfold IsSeed at h
    by_cases h1 : s < 1
    · clear h
      go_enter Tryz.func72, Tryz.ntmps72
      go_wp2
      go_ret
      exact ⟨rfl, rfl⟩
    · have h2 : 2147483647 ≤ s := by omega
      clear h
      go_enter Tryz.func72, Tryz.ntmps72
      go_wp2
      go_ret
      exact ⟨rfl, rfl⟩
/-- a draw, as it is made -/
theorem drw_eq (s n : Int) : ((nxt s - 1) * 2147483646 + nxt (nxt s) - 1) % n = drw s n := by unfold drw; congr 1; omega
set_option maxHeartbeats 400000 in
theorem below_any (B : Nat) (s n : Int) (w : World) (h : IsSeed s) (h1 : 1 ≤ n) (h2 : n ≤ 1099511627776) (hc : w.cell? ⟨B, 0, none⟩ = some (.int .i64 s)) (hf : w.frozen? ⟨B, 0, none⟩ = false) :
    Calls Tryz.prog 73 #[.pointer (some ⟨B, 0, none⟩), .int .i64 n] w fun e w' => e = .returned (.int .i64 (drw s n)) ∧ w.setCell ⟨B, 0, none⟩ (.int .i64 (adv s)) = w' := by
  have c1 := fun W : World => chNext_any s W h
  have c2 := fun W : World => chNext_any (nxt s) W (nxt_seed h)
  obtain ⟨b1, b2, b3, b4, b5, b6⟩ := draw_bnd h
  have E := Lib.hid (drw_eq s n)
  have A := Lib.hid (show adv s = nxt (nxt s) from rfl)
  clear h
  generalize nxt (nxt s) = b at *
  generalize nxt s = a at *
  have hc2 := World.cell?_setCell_same w ⟨B, 0, none⟩ (.int .i64 b) hc
  go_enter Tryz.func73, Tryz.ntmps73
  go_wp2_with (first | ((with_reducible refine (c1 _).mono ?_); clear c1; rintro e w1 ⟨rfl, rfl⟩) | ((with_reducible refine (c2 _).mono ?_); clear c2; rintro e w1 ⟨rfl, rfl⟩))
  go_ret
  exact ⟨congrArg (fun z => Ending.returned (Value.int .i64 z)) E.out, by rw [A.out]⟩
end Go.Proofs.YtilbhcjnkmeecaaGreat
