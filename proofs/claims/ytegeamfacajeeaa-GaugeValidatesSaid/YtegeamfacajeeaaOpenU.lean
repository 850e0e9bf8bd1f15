/- Lists of units as arguments, with what a nil list's room is.
Conditions: those written at each theorem. -/
import Derived.Test.YtegeamfacajeeaaOpen4
import Derived.Test.YtegeamfacajeeaaCopyC
namespace Go.Proofs.Ytegeamfacajeeaa
set_option linter.unusedVariables false
set_option linter.unusedSimpArgs false
set_option maxRecDepth 1000000
section
open Go.ChangeShapes Go.WideShapes Go.ChangeAt Go.RowKit Go.Joins Go.Deep
variable {H : Type} {enc : TypeId × Value → H} {w : World} {base : Nat} {spare : Nat → Bool} {held : Bool}
open Um
theorem open_unitsN {r : Reach} {b0 : Nat} {v : Value} {d : DataW H} {p : List MemPlace} (hv : Value.okWide Try.prog w r b0 23 v) (h : DataW.Trod enc Try.prog w base spare held 23 v d p) : ∃ (ao : Option Addr) (L : List Q) (cap : Nat), v = .slice ao L.length cap ∧ L.length ≤ maxLen ∧ LiesO w ao L ∧ (ao = none → cap = 0) := by
  obtain ⟨a, n, c, rfl⟩ := okWide_slice Try.underlying23 hv
  obtain ⟨fuel, hf⟩ := h
  have hf' : DataW.trod enc Try.prog w base spare held fuel 23 [.slice a n c] = some (d, p) := by simpa [Value.cells] using hf
  obtain ⟨ao, L, cap, he, hl, hm⟩ := trod_units hf'
  refine ⟨ao, L, cap, by simpa using he, hl, hm, fun h0 => ?_⟩
  subst h0
  rcases open_slice_fields Try.underlying23 Try.underlying34 (one_of (fs := _) Try.underlying34 (by kernel_rfl)) cells23 hf' with h | ⟨a, len, cap', h, _⟩
  · rw [h] at he; simp at he; exact he.2.symm
  · rw [h] at he; simp at he
end
theorem news_some {w : World} {ad : Addr} {G : List Um.Q} (h : LiesO w (some ad) G) : ∀ j u, (G.flatMap uc)[j]? = some u → w.cell? (ad.add j) = some u := fun j u hj => by
  rcases h with rfl | ⟨b, off, e, h⟩
  · simp at hj
  · obtain rfl := Option.some.inj e
    exact lies_news h j u hj
end Go.Proofs.Ytegeamfacajeeaa
