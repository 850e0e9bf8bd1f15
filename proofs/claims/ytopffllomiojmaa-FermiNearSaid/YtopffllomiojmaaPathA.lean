/- Which lists are paths, as the program and the document's answers find it.
Conditions: the list lies in memory as it is written at each theorem. -/
import Derived.Test.YtopffllomiojmaaInts
import Derived.Test.YtopffllomiojmaaMathA
namespace Go.Proofs.Ytopffllomiojmaa
set_option linter.unusedVariables false
set_option linter.unusedSimpArgs false
set_option maxRecDepth 1000000
open Go.RowKit
open Tm

end Go.Proofs.Ytopffllomiojmaa

/- Paths from their ends, as the program and the document's answers make them.
Conditions: the list lies in memory as it is written at each theorem. -/
namespace Go.Proofs.Ytopffllomiojmaa
set_option linter.unusedVariables false
set_option linter.unusedSimpArgs false
set_option maxRecDepth 1000000
open Go.RowKit
open Tm

theorem back_set (n k : Nat) (L : List Int) (x : Int) (hk : k < n) : ((List.replicate (n - k) (0 : Int) ++ L).map vi).set (n - 1 - k) (vi x) = (List.replicate (n - (k + 1)) (0 : Int) ++ x :: L).map vi := by
  have e : n - k = n - (k + 1) + 1 := by omega
  have e2 : n - 1 - k = n - (k + 1) := by omega
  rw [← List.map_set, e, e2, List.replicate_succ', List.append_assoc, List.set_append_right _ _ (by simp)]
  simp
theorem back_get (n k : Nat) (L : List Int) (hk : k < n) : ((List.replicate (n - k) (0 : Int) ++ L).map vi)[n - 1 - k]? = some (.int .i64 0) := by
  rw [List.getElem?_map, List.getElem?_append_left (by simp; omega), List.getElem?_replicate, if_pos (by omega)]
  rfl

theorem made_one (v : Value) (n : Nat) : (madeCells #[v] n).toList = List.replicate n v := by
  rw [List.eq_replicate_iff]
  refine ⟨by simp [madeCells], fun b hb => ?_⟩
  simp only [madeCells, Array.toList_map, List.mem_map] at hb
  obtain ⟨i, _, rfl⟩ := hb
  have : i % (#[v] : Array Value).size = 0 := Nat.mod_one i
  rw [this]
  rfl

end Go.Proofs.Ytopffllomiojmaa

/- Paths without steps that undo each other, as the program and the document's answers make them.
Conditions: the list lies in memory as it is written at each theorem. -/
namespace Go.Proofs.Ytopffllomiojmaa
set_option linter.unusedVariables false
set_option linter.unusedSimpArgs false
set_option maxRecDepth 1000000
open Go.RowKit
open Tm

/-- the list that a stack lies as -/
def stl (st : List Int) : List Value := st.reverse.map vi
theorem stl_cons (x : Int) (st : List Int) : stl (x :: st) = stl st ++ [vi x] := by simp [stl]
theorem stl_top (x : Int) (st : List Int) : (stl (x :: st))[st.length]? = some (vi x) := by
  rw [stl_cons, List.getElem?_append_right (by simp [stl])]
  simp [stl]
theorem stl_take (x : Int) (st : List Int) : (stl (x :: st)).take st.length = stl st := by
  rw [stl_cons]
  exact List.take_left' (by simp [stl])

theorem owned_some {w : World} {base : Nat} {T : TypeId} {v : Value} {n : Nat} {xs : List Value} (h : w.ownsRow base T 1 v n xs) (hn : 0 < n) : ∃ g cap, v = .slice (some ⟨g, 0, none⟩) n cap ∧ base ≤ g := by
  rcases h.2 with ⟨rfl, h0⟩ | ⟨g, cap, cur, rfl, hg, _⟩
  · omega
  · exact ⟨g, cap, rfl, hg⟩
theorem owned_zero {w : World} {base : Nat} {T : TypeId} {v : Value} {xs : List Value} (h : w.ownsRow base T 1 v 0 xs) : ∃ ao cap, v = .slice ao 0 cap := by
  rcases h.2 with ⟨rfl, h0⟩ | ⟨g, cap, cur, rfl, hg, _⟩
  · exact ⟨none, 0, rfl⟩
  · exact ⟨_, cap, rfl⟩

end Go.Proofs.Ytopffllomiojmaa

/- Walks, as the program and the document's answers make them.
Conditions: the list lies in memory as it is written at each theorem. -/
namespace Go.Proofs.Ytopffllomiojmaa
set_option linter.unusedVariables false
set_option linter.unusedSimpArgs false
set_option maxRecDepth 1000000
open Go.RowKit
open Tm

/-- the error of sizes, a site and a path -/
def wkR (a b c s : Int) (l : List Int) (r : Int) : Prop := (stR a b c s r ∧ r ≠ 0) ∨ (Sz a b c ∧ 0 ≤ s ∧ s < a * b * c ∧ pathR l r)
theorem wkR_ex (a b c s : Int) (l : List Int) : ∃ r, wkR a b c s l r := by
  by_cases h : Sz a b c
  · by_cases hs : 0 ≤ s ∧ s < a * b * c
    · obtain ⟨r, hr⟩ := pathR_ex l
      exact ⟨r, .inr ⟨h, hs.1, hs.2, hr⟩⟩
    · exact ⟨4, .inl ⟨.inr (.inl ⟨h, hs, rfl⟩), by decide⟩⟩
  · exact ⟨1, .inl ⟨.inl ⟨h, rfl⟩, by decide⟩⟩

/-- three numbers in a box, to be read -/
structure ABox (w : World) (b : Nat) (x y z : Int) : Prop where
  c0 : w.cell? ⟨b, 0, none⟩ = some (.int .i64 x)
  c1 : w.cell? ⟨b, 1, none⟩ = some (.int .i64 y)
  c2 : w.cell? ⟨b, 2, none⟩ = some (.int .i64 z)
  lt : b < w.heap.size
theorem ABox.later {w w1 : World} {b : Nat} {x y z : Int} (h : ABox w b x y z) (hb : Below w.heap.size w w1) : ABox w1 b x y z :=
  ⟨(hb.cell h.lt).trans h.c0, (hb.cell h.lt).trans h.c1, (hb.cell h.lt).trans h.c2, Nat.lt_of_lt_of_le h.lt hb.size⟩
theorem ABox.grown {w w1 : World} {b : Nat} {x y z : Int} {row : Option Nat} (h : ABox w b x y z) (hg : w.grownBy w1 row) (hne : some b ≠ row) : ABox w1 b x y z :=
  ⟨hg.cell h.c0 hne, hg.cell h.c1 hne, hg.cell h.c2 hne, Nat.lt_of_lt_of_le h.lt hg.size⟩

end Go.Proofs.Ytopffllomiojmaa
