/- Fields in new memory, as the program and the document's answers make them.
Conditions: those written at each theorem. -/
import Derived.Test.YtkgihmhehkaocaaGreatPCold
import Derived.Deep.RegionHeld3
import Derived.Deep.AppendLies
import Derived.Deep.RegionLawGrows
import Derived.Deep.RegionLaw
import Derived.Laws.AppendOwnNone
namespace Go.Proofs.YtkgihmhehkaocaaGreat
set_option linter.unusedVariables false
set_option linter.unusedSimpArgs false
set_option maxRecDepth 1000000
open Go.RowKit
open Um Tm

theorem lies_news {w : World} {b off : Nat} {L : List Q} (h : Lies w b off L) : ∀ j u, (L.flatMap uc)[j]? = some u → w.cell? (Addr.add ⟨b, off, none⟩ j) = some u := fun j u hj => by
  have hlt : j < L.length * 5 := by
    have := (List.getElem?_eq_some_iff.1 hj).1
    rwa [flat_len uc 5 uc_len] at this
  have hi : j / 5 < L.length := by omega
  have hx : L[j / 5]? = some L[j / 5] := List.getElem?_eq_getElem hi
  have hr : j % 5 < 5 := Nat.mod_lt _ (by decide)
  have e := flat_get uc 5 uc_len L (j / 5) _ hx (j % 5) hr
  rw [show j / 5 * 5 + j % 5 = j by omega, hj] at e
  obtain ⟨h0, h1, h2, h3, h4⟩ := h _ _ hx
  have ea : Addr.add ⟨b, off, none⟩ j = ⟨b, off + j, none⟩ := by
    unfold Addr.add
    split
    · rename_i h; subst h; rfl
    · rfl
  rw [ea, show off + j = off + j / 5 * 5 + j % 5 by omega]
  generalize j % 5 = r at *
  have : r = 0 ∨ r = 1 ∨ r = 2 ∨ r = 3 ∨ r = 4 := by omega
  rcases this with rfl | rfl | rfl | rfl | rfl
  · rw [Nat.add_zero, h0]; simpa [uc] using e.symm
  · rw [h1]; simpa [uc] using e.symm
  · rw [h2]; simpa [uc] using e.symm
  · rw [h3]; simpa [uc] using e.symm
  · rw [h4]; simpa [uc] using e.symm
theorem lies_ones (L : List Q) : ∀ u ∈ L.flatMap uc, u.oneCell' = true := fun u hu => by
  obtain ⟨x, _, hx⟩ := List.mem_flatMap.1 hu
  exact five_one (a := x.a) (b := x.b) (c := x.c) (d := x.d) (e := x.n) rfl u hx

theorem owned_LBox {w : World} {base : Nat} {T : TypeId} {g n cap : Nat} {L : List Q} (hn : n = L.length) (h : w.ownsRow base T 5 (.slice (some ⟨g, 0, none⟩) n cap) n (L.flatMap uc)) : LBox w g L ∧ base ≤ g := by
  subst hn
  refine ⟨⟨owned_lies h, fun j => ?_, ?_⟩, ?_⟩
  all_goals
    rcases h.2 with ⟨h', _⟩ | ⟨g', cap', cur, h', hb, hg, _⟩
    · simp at h'
    · simp only [Value.slice.injEq, Option.some.injEq, Addr.mk.injEq, and_true, true_and] at h'
      obtain ⟨rfl, -⟩ := h'
      first
        | exact hb
        | exact (Array.getElem?_eq_some_iff.1 hg).1
        | simp [World.frozen?, hg]

end Go.Proofs.YtkgihmhehkaocaaGreat
