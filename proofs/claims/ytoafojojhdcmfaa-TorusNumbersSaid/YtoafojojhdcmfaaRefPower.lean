/- Powers, as the document's answers make them.
Conditions: those written at each theorem. -/
import Derived.Test.YtoafojojhdcmfaaPower
namespace Go.Proofs.Ytoafojojhdcmfaa
set_option linter.unusedVariables false
set_option linter.unusedSimpArgs false
open Go.RowKit
open Um

theorem owned_ne {w : World} {base : Nat} {T : TypeId} {size n b : Nat} {v : Value} {xs : List Value} (h : w.ownsRow base T size v n xs) (hb : b < base) : some b ≠ v.ownBlock := by
  rcases h.2 with ⟨rfl, _⟩ | ⟨g, cap, cur, rfl, hg, _⟩
  · simp [Value.ownBlock]
  · simp [Value.ownBlock]; omega
theorem owned_from {w : World} {base : Nat} {T : TypeId} {size n : Nat} {v : Value} {xs : List Value} (h : w.ownsRow base T size v n xs) : ∀ k, v.ownBlock = some k → base ≤ k := by
  rcases h.2 with ⟨rfl, _⟩ | ⟨g, cap, cur, rfl, hg, _⟩
  · simp [Value.ownBlock]
  · intro k hk; simp [Value.ownBlock] at hk; omega
theorem owned_liesO {w : World} {base : Nat} {T : TypeId} {v : Value} {L : List Q} (h : w.ownsRow base T 5 v L.length (L.flatMap uc)) : ∃ ao cap, v = .slice ao L.length cap ∧ LiesO w ao L := by
  rcases h.2 with ⟨rfl, h0⟩ | ⟨g, cap, cur, rfl, hg, _⟩
  · exact ⟨none, 0, by rw [h0], .inl (List.length_eq_zero_iff.1 h0)⟩
  · exact ⟨_, cap, rfl, .inr ⟨g, 0, rfl, owned_lies h⟩⟩

theorem wth_yes (n : Int) (w : World) (h1 : -1000 ≤ n) (h2 : n ≤ 1000) : Calls Try.prog 159 #[.int .i64 n, .int .i64 (-1000), .int .i64 1000] w fun e w' => e = .returned (.bool true) ∧ w = w' := by
  have := within_any n (-1000) 1000 w
  rwa [inB_yes h1 h2] at this
theorem wth_no (n : Int) (w : World) (h : ¬ (-1000 ≤ n ∧ n ≤ 1000)) : Calls Try.prog 159 #[.int .i64 n, .int .i64 (-1000), .int .i64 1000] w fun e w' => e = .returned (.bool false) ∧ w = w' := by
  have h3 : inB n (-1000) 1000 = false := by
    cases hb : inB n (-1000) 1000
    · rfl
    · exact absurd (inB_iff.1 hb) h
  have := within_any n (-1000) 1000 w
  rwa [h3] at this

theorem rep_step (m left : Nat) (y : Q) (h : 0 < left) (hl : left ≤ m) : (List.replicate (m - (left - 1)) y).flatMap uc = (List.replicate (m - left) y).flatMap uc ++ uc y := by
  have e : m - (left - 1) = m - left + 1 := by omega
  rw [e, List.replicate_succ', List.flatMap_append]
  simp

end Go.Proofs.Ytoafojojhdcmfaa
