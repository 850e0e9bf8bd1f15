/- Lists of terms one behind the other, in new memory.
Conditions: those written at each theorem. -/
import Derived.Test.YtjidbajcnomceaaGreatLoopE
namespace Go.Proofs.YtjidbajcnomceaaGreat
set_option linter.unusedVariables false
set_option linter.unusedSimpArgs false
set_option maxRecDepth 1000000
open Go.RowKit
open Um Tm Lm

theorem rows_at {α : Type} {z : Nat} {enc : α → List Value} {w : World} {b off : Nat} {l : List α} (hz : ∀ x, (enc x).length = z) (h0 : 0 < z) (h : RowsAt z enc w b off l) : ∀ j u, (l.flatMap enc)[j]? = some u → w.cell? (Addr.add ⟨b, off, none⟩ j) = some u := fun j u hj => by
  have hlt : j < l.length * z := by have := (List.getElem?_eq_some_iff.1 hj).1; rwa [flat_len enc z hz] at this
  have hi : j / z < l.length := (Nat.div_lt_iff_lt_mul h0).2 hlt
  have hm : j % z < z := Nat.mod_lt _ h0
  have e : j / z * z + j % z = j := Nat.div_add_mod' j z
  have hf := flat_get enc z hz l (j / z) l[j / z] (List.getElem?_eq_getElem hi) (j % z) hm
  rw [e, hj] at hf
  have := h (j / z) _ (List.getElem?_eq_getElem hi) (j % z) u hf.symm
  have ea : Addr.add ⟨b, off, none⟩ j = ⟨b, off + j, none⟩ := by
    unfold Addr.add
    split
    · rename_i h; subst h; rfl
    · rfl
  rw [ea]
  rwa [Nat.add_assoc, e] at this
theorem tcs_one (l : List T3) : ∀ u ∈ l.flatMap tc, u.oneCell' = true := fun u hu => by
  obtain ⟨x, _, hx⟩ := List.mem_flatMap.1 hu
  exact tc_one x u hx
theorem run_append_T (w : World) (ty : TypeId) (base : Nat) (v : Value) (n : Nat) (xs : List Value) (ao : Option Addr) (c : Nat) (l : List T3) (hown : w.ownsRow base 119 3 v n xs) (h : RowsO 3 tc w ao l) (hb : base ≤ w.heap.size) (hn : n + l.length ≤ 1000000) :
    ∃ v' w', (Builtin.append_ #[113, 113] ty #[v, .slice ao l.length c]).run Tryz.prog w = .ok v' w' ∧ w'.ownsRow base 119 3 v' (n + l.length) (xs ++ l.flatMap tc) ∧ w.grownBy w' v.ownBlock := by
  obtain ⟨i0, hi, hz0, hz1, hz2⟩ := info_parts info3T
  have some_ : ∀ a : Addr, (∀ j u, (l.flatMap tc)[j]? = some u → w.cell? (a.add j) = some u) → ∃ v' w', (Builtin.append_ #[113, 113] ty #[v, .slice (some a) l.length c]).run Tryz.prog w = .ok v' w' ∧ w'.ownsRow base 119 3 v' (n + l.length) (xs ++ l.flatMap tc) ∧ w.grownBy w' v.ownBlock := fun a hat => by
    obtain ⟨v', w', h1, h2, h3, -⟩ := run_append_own w base 113 ty 119 i0 _ 3 56 Tryz.underlying113 hi hz0 hz1 hz2 rfl (by decide) v n xs hown a l.length c (l.flatMap tc) (flat_len tc 3 tc_len l) hat (tcs_one l) (by unfold maxLen; omega) (by omega) hb
    exact ⟨v', w', h1, h2, h3⟩
  rcases h with rfl | ⟨b, off, rfl, h⟩
  · cases ao with
    | none => exact ⟨v, w, run_append_none_cap base _ ty _ i0 3 c Tryz.underlying113 hi v n xs hown, by simpa using hown, ⟨rfl, rfl, rfl, Nat.le_refl _, fun _ _ _ => rfl⟩⟩
    | some a => exact some_ a (fun j u hj => by simp at hj)
  · exact some_ _ (rows_at tc_len (by decide) h)

end Go.Proofs.YtjidbajcnomceaaGreat
