/- How a momentum is read off an argument.
Conditions: none. -/
import Derived.Test.YtilbhcjnkmeecaaGreatOpen
import Derived.OpenShut
import Derived.Test.YtilbhcjnkmeecaaGreatIBox
namespace Go.Proofs.YtilbhcjnkmeecaaGreat
set_option linter.unusedVariables false
set_option linter.unusedSimpArgs false
set_option maxRecDepth 1000000
open Go.ChangeShapes Go.WideShapes Go.ChangeAt Go.RowKit
section
variable {H : Type} {enc : TypeId × Value → H} {w : World} {base : Nat} {spare : Nat → Bool} {held : Bool}
theorem cellsK : Tryz.prog.cellsOf 38 = 3 := by kernel_rfl
theorem open_kick {r : Reach} {b0 : Nat} {v : Value} {d : DataW H} {p : List MemPlace} (hv : Value.okWide Tryz.prog w r b0 38 v) (h : DataW.Trod enc Tryz.prog w base spare held 38 v d p) : ∃ a b c : Int, v = .agg #[.int .i64 a, .int .i64 b, .int .i64 c] := by
  have hagg : ∃ cs, v = .agg cs ∧ cs.size = Tryz.prog.cellsOf 38 := by
    simp only [Value.okWide, Tryz.underlying38] at hv
    obtain ⟨cs, h1, h2, _⟩ := hv
    exact ⟨cs, h1, h2⟩
  obtain ⟨cs, rfl, hsz⟩ := hagg
  obtain ⟨l⟩ := cs
  match l, hsz.trans cellsK with
  | [c0, c1, c2], _ =>
    obtain ⟨fuel, hf⟩ := h
    obtain ⟨xs, n, _, _, _, hlen, hg⟩ := DataW.trod_array Tryz.underlying38 hf
    match xs, hlen with
    | [y0, y1, y2], _ =>
      obtain ⟨a, e0, _, _⟩ := DataW.trod_int Tryz.underlying3 (show DataW.trod enc Tryz.prog w base spare held n 3 [c0] = some y0 by simpa [Value.cells, cells3] using hg 0 (by omega))
      obtain ⟨b, e1, _, _⟩ := DataW.trod_int Tryz.underlying3 (show DataW.trod enc Tryz.prog w base spare held n 3 [c1] = some y1 by simpa [Value.cells, cells3] using hg 1 (by omega))
      obtain ⟨c, e2, _, _⟩ := DataW.trod_int Tryz.underlying3 (show DataW.trod enc Tryz.prog w base spare held n 3 [c2] = some y2 by simpa [Value.cells, cells3] using hg 2 (by omega))
      simp at e0 e1 e2
      subst e0 e1 e2
      exact ⟨a, b, c, rfl⟩
end
end Go.Proofs.YtilbhcjnkmeecaaGreat

/- How a list of momenta is read off an argument.
Conditions: none. -/
namespace Go.Proofs.YtilbhcjnkmeecaaGreat
set_option linter.unusedVariables false
set_option linter.unusedSimpArgs false
set_option maxRecDepth 1000000
open Go.ChangeShapes Go.WideShapes Go.ChangeAt Go.RowKit Go.Joins Go.Deep
section
variable {H : Type} {enc : TypeId × Value → H} {w : World} {base : Nat} {spare : Nat → Bool} {held : Bool}
theorem trod_kicks {fuel : Nat} {cs : List Value} {x : DataW H × List MemPlace} (h : DataW.trod enc Tryz.prog w base spare held fuel 26 cs = some x) : ∃ (po : Option Addr) (l : List Int) (n cap : Nat), cs = [.slice po n cap] ∧ l.length = n * 3 ∧ n ≤ cap ∧ cap ≤ maxLen ∧ LiesOI w po l ∧ (po = none → cap = 0) := by
  rcases open_slice Tryz.underlying26 h with ⟨rfl, -⟩ | ⟨a, len, cap, m, n, D, Pl, rfl, hb, hl, hm, hmm, hx, hi⟩
  · exact ⟨none, [], 0, 0, rfl, rfl, Nat.le_refl _, by simp, .inl rfl, fun _ => rfl⟩
  · obtain ⟨l, hlen, hL⟩ := list_of (len * 3) (fun i (q : Int) => w.cell? (a.add i) = some (.int .i64 q)) (fun i hi3 => by
      have him : i / 3 < m := by rw [hmm]; split <;> omega
      obtain ⟨cs', hc, ht'⟩ := hi (i / 3) him
      rw [cellsK] at hc
      obtain ⟨ys, n', -, -, -, hyl, hf⟩ := DataW.trod_array Tryz.underlying38 ht'
      obtain ⟨_, hcl, hat⟩ := World.cells?_some hc
      have h3 : i % 3 < 3 := Nat.mod_lt _ (by decide)
      have hcell := hat (i % 3) h3
      have h1 := hf (i % 3) h3
      rw [cells3, Nat.mul_one] at h1
      have hone' : (cs'.drop (i % 3)).take 1 = [cs'[i % 3]'(by omega)] := by
        rw [List.drop_eq_getElem_cons (by omega)]
        rfl
      rw [hone', List.getElem?_eq_getElem (by omega)] at h1
      obtain ⟨z, e0, _, _⟩ := DataW.trod_int Tryz.underlying3 h1
      simp at e0
      refine ⟨z, ?_⟩
      have e : a.add i = (a.add (i / 3 * 3)).add (i % 3) := by rw [Go.Deep.add_add]; congr 1; omega
      rw [e, hcell, List.getElem?_eq_getElem (by omega), e0])
    refine ⟨some a, l, len, cap, rfl, hlen, hl, hm, ?_, fun h => by cases h⟩
    by_cases he : l = []
    · exact .inl he
    · have hp : 0 < l.length := by cases l; exact absurd rfl he; simp
      have h0 := hL 0 l[0] (List.getElem?_eq_getElem hp)
      obtain ⟨b, off, spot⟩ := a
      have hs := World.cell?_spot h0
      simp [Addr.add] at hs
      subst hs
      refine .inr ⟨b, off, rfl, fun i x hx => ?_⟩
      have c0 := hL i x hx
      have f : ∀ n, Addr.add ⟨b, off, none⟩ n = ⟨b, off + n, none⟩ := fun n => by
        unfold Addr.add
        split
        · rename_i h; subst h; rfl
        · rfl
      rw [f] at c0
      exact c0
theorem open_kicks {r : Reach} {b0 : Nat} {v : Value} {d : DataW H} {p : List MemPlace} (hv : Value.okWide Tryz.prog w r b0 26 v) (h : DataW.Trod enc Tryz.prog w base spare held 26 v d p) : ∃ (po : Option Addr) (l : List Int) (n cap : Nat), v = .slice po n cap ∧ l.length = n * 3 ∧ n ≤ cap ∧ cap ≤ maxLen ∧ LiesOI w po l ∧ (po = none → cap = 0) := by
  obtain ⟨fuel, hf⟩ := h
  obtain ⟨po, l, n, cap, he, h1, h2, h3, h4, h5⟩ := trod_kicks hf
  refine ⟨po, l, n, cap, ?_, h1, h2, h3, h4, h5⟩
  obtain ⟨a, n', c, rfl⟩ := okWide_slice Tryz.underlying26 hv
  simpa [Value.cells] using he
end
end Go.Proofs.YtilbhcjnkmeecaaGreat
