/- Paths from their ends, as the program and the document's answers make them.
Conditions: the list lies in memory as it is written at each theorem. -/
import Derived.Test.YtdplojcbfdbgnaaPathC
namespace Go.Proofs.Ytdplojcbfdbgnaa
set_option linter.unusedVariables false
set_option linter.unusedSimpArgs false
set_option maxRecDepth 1000000
open Go.RowKit
open Tm

theorem back_set (n k : Nat) (L : List Int) (x : Int) (hk : k < n) : ((List.replicate (n - k) (0 : Int) ++ L).map vi).set (n - 1 - k) (vi x) = (List.replicate (n - (k + 1)) (0 : Int) ++ x :: L).map vi := by
  have e : n - k = n - (k + 1) + 1 := by omega
  have e2 : n - 1 - k = n - (k + 1) := by omega
  rw [← List.map_set, e, e2, List.replicate_succ', List.append_assoc, List.set_append_right _ _ (by simp)]
  simp
theorem back_get (n k : Nat) (L : List Int) (hk : k < n) : ((List.replicate (n - k) (0 : Int) ++ L).map vi)[n - 1 - k]? = some (.int .i64 0) := by
  rw [List.getElem?_map, List.getElem?_append_left (by simp; omega), List.getElem?_replicate, if_pos (by omega)]
  rfl

theorem made_one (v : Value) (n : Nat) : (madeCells #[v] n).toList = List.replicate n v := by
  rw [List.eq_replicate_iff]
  refine ⟨by simp [madeCells], fun b hb => ?_⟩
  simp only [madeCells, Array.toList_map, List.mem_map] at hb
  obtain ⟨i, _, rfl⟩ := hb
  have : i % (#[v] : Array Value).size = 0 := Nat.mod_one i
  rw [this]
  rfl

end Go.Proofs.Ytdplojcbfdbgnaa
