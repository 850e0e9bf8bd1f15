/- How a list of quaternions of integers is read off an argument.
Conditions: none. -/
import Derived.Test.YtojmagooapjohaaOpen
import Derived.Test.YtojmagooapjohaaFermA
import Derived.OpenShut
namespace Go.Proofs.Ytojmagooapjohaa
set_option linter.unusedVariables false
set_option linter.unusedSimpArgs false
set_option maxRecDepth 1000000
open Go.ChangeShapes Go.WideShapes Go.ChangeAt Go.RowKit Go.Joins Go.Deep
open Fm
section
variable {H : Type} {enc : TypeId × Value → H} {w : World} {base : Nat} {spare : Nat → Bool} {held : Bool}
theorem cellsS4 : Try.prog.cellsOf 95 = 4 := by kernel_rfl
theorem cellsSi : Try.prog.cellsOf 3 = 1 := by kernel_rfl
theorem trod_spins {fuel : Nat} {cs : List Value} {x : DataW H × List MemPlace} (h : DataW.trod enc Try.prog w base spare held fuel 51 cs = some x) : ∃ (po : Option Addr) (M : List Sp) (cap : Nat), cs = [.slice po M.length cap] ∧ M.length ≤ cap ∧ cap ≤ maxLen ∧ LiesOI w po (fl M) ∧ (po = none → cap = 0) := by
  rcases open_slice Try.underlying51 h with ⟨rfl, -⟩ | ⟨a, len, cap, m, n, D, Pl, rfl, hb, hl, hm, hmm, hx, hi⟩
  · exact ⟨none, [], 0, rfl, Nat.le_refl _, by simp, .inl rfl, fun _ => rfl⟩
  · obtain ⟨l, hlen, hL⟩ := list_of (len * 4) (fun i (q : Int) => w.cell? (a.add i) = some (.int .i64 q)) (fun i hi3 => by
      have him : i / 4 < m := by rw [hmm]; split <;> omega
      obtain ⟨cs', hc, ht'⟩ := hi (i / 4) him
      rw [cellsS4] at hc
      obtain ⟨ys, n', -, -, -, hyl, hf⟩ := DataW.trod_array Try.underlying95 ht'
      obtain ⟨_, hcl, hat⟩ := World.cells?_some hc
      have h3 : i % 4 < 4 := Nat.mod_lt _ (by decide)
      have hcell := hat (i % 4) h3
      have h1 := hf (i % 4) h3
      rw [cellsSi, Nat.mul_one] at h1
      have hone' : (cs'.drop (i % 4)).take 1 = [cs'[i % 4]'(by omega)] := by
        rw [List.drop_eq_getElem_cons (by omega)]
        rfl
      rw [hone', List.getElem?_eq_getElem (by omega)] at h1
      obtain ⟨z, e0, _, _⟩ := DataW.trod_int Try.underlying3 h1
      simp at e0
      refine ⟨z, ?_⟩
      have e : a.add i = (a.add (i / 4 * 4)).add (i % 4) := by rw [Go.Deep.add_add]; congr 1; omega
      rw [e, hcell, List.getElem?_eq_getElem (by omega), e0])
    obtain ⟨M, hMl, hMf⟩ := fl_ex len l hlen
    subst hMl hMf
    refine ⟨some a, M, cap, rfl, hl, hm, ?_, fun h => by cases h⟩
    by_cases he : fl M = []
    · exact .inl he
    · have hp : 0 < (fl M).length := by cases h : fl M; exact absurd h he; simp
      have h0 := hL 0 (fl M)[0] (List.getElem?_eq_getElem hp)
      obtain ⟨b, off, spot⟩ := a
      have hs := World.cell?_spot h0
      simp [Addr.add] at hs
      subst hs
      refine .inr ⟨b, off, rfl, fun i x hx => ?_⟩
      have c0 := hL i x hx
      have f : ∀ n, Addr.add ⟨b, off, none⟩ n = ⟨b, off + n, none⟩ := fun n => by
        unfold Addr.add
        split
        · rename_i h; subst h; rfl
        · rfl
      rw [f] at c0
      exact c0
theorem open_spins {r : Reach} {b0 : Nat} {v : Value} {d : DataW H} {p : List MemPlace} (hv : Value.okWide Try.prog w r b0 51 v) (h : DataW.Trod enc Try.prog w base spare held 51 v d p) : ∃ (po : Option Addr) (M : List Sp) (cap : Nat), v = .slice po M.length cap ∧ M.length ≤ cap ∧ cap ≤ maxLen ∧ LiesOI w po (fl M) ∧ (po = none → cap = 0) := by
  obtain ⟨fuel, hf⟩ := h
  obtain ⟨po, M, cap, he, h1, h2, h3, h4⟩ := trod_spins hf
  refine ⟨po, M, cap, ?_, h1, h2, h3, h4⟩
  obtain ⟨a, n', c, rfl⟩ := okWide_slice Try.underlying51 hv
  simpa [Value.cells] using he
end
end Go.Proofs.Ytojmagooapjohaa
