/- The weights of the values of a link, as a list that can be summed; a link that is set.
Conditions: those written at each theorem. -/
import Derived.Test.YtpfhjdmgkckjfaaDoorQRatC5
import Derived.Test.YtpfhjdmgkckjfaaDoorQHeldC
import Derived.OpenShut
import Derived.Test.YtpfhjdmgkckjfaaDoorTie
import Derived.Test.YtpfhjdmgkckjfaaDoorCards
import Derived.Test.YtpfhjdmgkckjfaaDoorQRwsC
import Derived.Test.YtpfhjdmgkckjfaaDoorQSidC
import Derived.ProofKit
import Derived.LaidMore
import Derived.SevenTiedAt
namespace Go.Proofs.YtpfhjdmgkckjfaaDoor
set_option linter.unusedVariables false
set_option linter.unusedSimpArgs false
set_option maxRecDepth 1000000
open Go.RowKit
open Um Tm Cm

theorem wsK_get (a b c l : Int) (L : List Q) (ws ps : List Int) (k : Nat) (hk : k < 24) : (wsK a b c L ws l ps 24)[k]? = some (wprod a b c L ws l (small (k : Int)) ps) := by
  unfold wsK
  rw [List.getElem?_map, List.getElem?_range hk]
  rfl
theorem wg_of {a b c l : Int} {L : List Q} {ws : List Int} (hF : SmF a b c L) (hw : WOk ws) (l0 : 0 ≤ l) (l1 : l < 3 * (a * b * c)) (k : Nat) (hk : k < 24) : Wg (wprod a b c L ws l (small (k : Int)) (thr a b c l)) := by
  obtain ⟨hn1, hn4⟩ := thr_some hF.z l0 l1
  have hs : Sm (small (k : Int)) := ⟨k, hk, rfl⟩
  obtain ⟨k1, k2⟩ := wprod_rng (l := l) hF hw hs (thr a b c l) (fun p hp => by obtain ⟨j, hj⟩ := List.getElem?_of_mem hp; exact thr_rng hj) (thr a b c l).length (Nat.le_refl _)
  rw [List.take_length] at k1 k2
  refine ⟨k1, Int.le_trans k2 ?_⟩
  have h : (thr a b c l).length = 1 ∨ (thr a b c l).length = 2 ∨ (thr a b c l).length = 3 ∨ (thr a b c l).length = 4 := by omega
  rcases h with h | h | h | h <;> rw [h] <;> decide
theorem WL_of {a b c l : Int} {L : List Q} {ws : List Int} (hF : SmF a b c L) (hw : WOk ws) (l0 : 0 ≤ l) (l1 : l < 3 * (a * b * c)) : WL (wsK a b c L ws l (thr a b c l) 24) := by
  have key : ∀ x ∈ wsK a b c L ws l (thr a b c l) 24, Wg x := fun x hx => by
    unfold wsK at hx
    obtain ⟨k, hk, rfl⟩ := List.mem_map.1 hx
    exact wg_of hF hw l0 l1 k (List.mem_range.1 hk)
  exact ⟨wsK_len _ _ _ _ _ _ _ _, fun x hx => (key x hx).1, fun x hx => (key x hx).2⟩
end Go.Proofs.YtpfhjdmgkckjfaaDoor

namespace Go.Proofs.YtpfhjdmgkckjfaaDoor
set_option linter.unusedVariables false
set_option linter.unusedSimpArgs false
set_option maxRecDepth 1000000
section
open Go.ChangeShapes Go.WideShapes Go.ChangeAt Go.RowKit Go.Joins Go.Deep
variable {H : Type} {enc : TypeId × Value → H} {w : World} {base : Nat} {spare : Nat → Bool} {held : Bool}
theorem cells_at5 : Tryd.prog.cellsOf 28 = 3 := by kernel_rfl
theorem one_of_at5 {fs : Array Field} (_ : Tryd.prog.underlying 28 = some (.struct fs)) (h : oneCellFields Tryd.prog fs = true) : oneCellFields Tryd.prog fs = true := h
theorem open_at5 {r : Reach} {b0 : Nat} {v : Value} {d : DataW H} {p : List MemPlace} (hv : Value.okWide Tryd.prog w r b0 28 v) (h : DataW.Trod enc Tryd.prog w base spare held 28 v d p) : ∃ a b c : Int, v = .agg #[.int .i64 a, .int .i64 b, .int .i64 c] := by
  obtain ⟨cs, rfl, hsz⟩ := okWide_struct Tryd.underlying28 hv
  obtain ⟨l⟩ := cs
  match l, hsz.trans cells_at5 with
  | [c0, c1, c2], _ =>
    obtain ⟨fuel, hf⟩ := h
    obtain ⟨xs, n, _, _, _, hlen, hg⟩ := DataW.trod_struct Tryd.underlying28 hf
    have hone := one_of_at5 (fs := _) Tryd.underlying28 (by kernel_rfl)
    match xs, hlen with
    | [y0, y1, y2], _ =>
      obtain ⟨o0, k0⟩ := hone_of hone 0 _ rfl
      obtain ⟨o1, k1⟩ := hone_of hone 1 _ rfl
      obtain ⟨o2, k2⟩ := hone_of hone 2 _ rfl
      obtain ⟨a0, e0, _, _⟩ := DataW.trod_int Tryd.underlying3 (show DataW.trod enc Tryd.prog w base spare held n 3 [c0] = some y0 by simpa [Value.cells, o0, cells3] using hg 0 _ rfl)
      obtain ⟨a1, e1, _, _⟩ := DataW.trod_int Tryd.underlying3 (show DataW.trod enc Tryd.prog w base spare held n 3 [c1] = some y1 by simpa [Value.cells, o1, cells3] using hg 1 _ rfl)
      obtain ⟨a2, e2, _, _⟩ := DataW.trod_int Tryd.underlying3 (show DataW.trod enc Tryd.prog w base spare held n 3 [c2] = some y2 by simpa [Value.cells, o2, cells3] using hg 2 _ rfl)
      simp at e0 e1 e2
      subst e0 e1 e2
      exact ⟨a0, a1, a2, rfl⟩
end
end Go.Proofs.YtpfhjdmgkckjfaaDoor

namespace Go.Proofs.YtpfhjdmgkckjfaaDoor
set_option linter.unusedVariables false
set_option linter.unusedSimpArgs false
set_option maxRecDepth 1000000
open Go.ChangeShapes Go.WideShapes Go.ChangeAt Go.WideMaps Go.WideElems Go.RowKit Go.Joins Go.Deep

theorem gSteps : Tryd.prog.globalNamed "plaquette/chance.steps" = some 0 := by kernel_rfl
theorem tSteps : (Tryd.prog.globals[0]?).map (·.type) = some 148 := by kernel_rfl
theorem cI1 : Tryd.prog.cellsOf 3 = 1 := by kernel_rfl
theorem c322 : Tryd.prog.cellsOf 148 = 6 := by kernel_rfl
theorem c22 : Tryd.prog.cellsOf 147 = 2 := by kernel_rfl
theorem two_of_trod {H : Type} {enc : TypeId × Value → H} {w : World} {base : Nat} {sp : Nat → Bool} {held : Bool} {fuel : Nat} {u v : Value} {a b : Int} {m : List MemPlace} (h : DataW.trod enc Tryd.prog w base sp held fuel 147 [u, v] = some (.agg [.lit (.int .i64 a), .lit (.int .i64 b)], m)) : u = .int .i64 a ∧ v = .int .i64 b := by
  obtain ⟨xs, m1, _, hx1, _, hn, hel⟩ := DataW.trod_array Tryd.underlying147 h
  simp only [Prod.mk.injEq, DataW.agg.injEq] at hx1
  match xs, hn, hx1, hel with
  | [x0, x1], _, hx1, hel =>
    have h0 := hel 0 (by decide)
    have h1 := hel 1 (by decide)
    obtain ⟨k0, e0, f0, _⟩ := DataW.trod_int Tryd.underlying3 (show DataW.trod enc Tryd.prog w base sp held m1 3 [u] = some x0 by simpa [cI1] using h0)
    obtain ⟨k1, e1, f1, _⟩ := DataW.trod_int Tryd.underlying3 (show DataW.trod enc Tryd.prog w base sp held m1 3 [v] = some x1 by simpa [cI1] using h1)
    simp only [List.map_cons, List.map_nil, List.cons.injEq] at hx1
    rw [f0] at hx1
    rw [f1] at hx1
    simp at hx1 e0 e1
    obtain ⟨⟨rfl, rfl⟩, _⟩ := hx1
    exact ⟨e0, e1⟩
theorem sta_of_laid {W : World} (h : laidMetH Tryd.prog [("plaquette/chance.steps", Rows.laid_plaquette_chance_steps)] W) : StA W := by
  rw [MakeChecks.laidMetH_plain _ _ _ (by kernel_rfl)] at h
  obtain ⟨ps, ⟨g0, t0, cs0, f0, p0, q0, hg0, ht0, hv0, hd0, _, _⟩, _⟩ := h
  obtain rfl := Option.some.inj (gSteps.symm.trans hg0)
  obtain rfl := Option.some.inj (tSteps.symm.trans ht0)
  obtain ⟨xs, m1, hc, hx1, hsz, hn, hel⟩ := DataW.trod_array Tryd.underlying148 hd0
  simp only [Prod.mk.injEq, DataW.agg.injEq, Rows.laid_plaquette_chance_steps] at hx1
  have hlen : cs0.toList.length = 6 := by
    have := hsz
    simp [c322] at this
    simpa using this
  obtain ⟨cl⟩ := cs0
  match cl, hlen, xs, hn, hx1, hel with
  | [u0, u1, u2, u3, u4, u5], _, [x0, x1, x2], _, hx1, hel =>
    have h0 := hel 0 (by decide)
    have h1 := hel 1 (by decide)
    have h2 := hel 2 (by decide)
    simp only [List.map_cons, List.map_nil, List.cons.injEq] at hx1
    obtain ⟨⟨e0, e1, e2, _⟩, _⟩ := hx1
    simp [c22] at h0 h1 h2
    obtain ⟨d0, m0⟩ := x0
    obtain ⟨d1, m2⟩ := x1
    obtain ⟨d2, m3⟩ := x2
    simp only at e0 e1 e2
    subst e0 e1 e2
    obtain ⟨rfl, rfl⟩ := two_of_trod h0
    obtain ⟨rfl, rfl⟩ := two_of_trod h1
    obtain ⟨rfl, rfl⟩ := two_of_trod h2
    exact ⟨World.var?_cell hg0 hv0 0, World.var?_cell hg0 hv0 1, World.var?_cell hg0 hv0 2, World.var?_cell hg0 hv0 3, World.var?_cell hg0 hv0 4, World.var?_cell hg0 hv0 5⟩
end Go.Proofs.YtpfhjdmgkckjfaaDoor
