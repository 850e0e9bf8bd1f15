/- Sweeps: their errors on both sides, and the program's sweep; whether two lists of moves are the same.
Conditions: those written at each theorem. -/
import Derived.Test.YtpfhjdmgkckjfaaGreatDoorAFmvC
import Derived.Test.YtpfhjdmgkckjfaaGreatDoorARvwC
import Derived.Test.YtpfhjdmgkckjfaaGreatDoorTie
import Derived.Test.YtpfhjdmgkckjfaaGreatDoorCards
import Derived.Test.YtpfhjdmgkckjfaaGreatDoorADist
import Derived.Test.YtpfhjdmgkckjfaaGreatDoorASidC
import Derived.ProofKit
import Derived.LaidMore
import Derived.SevenTiedAt
namespace Go.Proofs.YtpfhjdmgkckjfaaGreatDoor
set_option linter.unusedVariables false
set_option linter.unusedSimpArgs false
set_option maxRecDepth 1000000
open Go.RowKit
open Um Tm Cm

/-- the error of a field, of weights and of a seed -/
def csR (a b c : Int) (L : List Q) (ws : List Int) (s r : Int) : Prop := (ckR a b c L ws r ∧ r ≠ 0) ∨ (ckR a b c L ws 0 ∧ ((IsSeed s ∧ r = 0) ∨ (¬ IsSeed s ∧ r = 1)))
theorem csR_ex (a b c : Int) (L : List Q) (ws : List Int) (s : Int) : ∃ r, csR a b c L ws s r := by
  obtain ⟨r, hr⟩ := ckR_ex a b c L ws
  by_cases h0 : r = 0
  · subst h0
    by_cases h : IsSeed s
    · exact ⟨0, .inr ⟨hr, .inl ⟨h, rfl⟩⟩⟩
    · exact ⟨1, .inr ⟨hr, .inr ⟨h, rfl⟩⟩⟩
  · exact ⟨r, .inl ⟨hr, h0⟩⟩
theorem csR_ok {a b c s : Int} {L : List Q} {ws : List Int} (h : csR a b c L ws s 0) : SwI a b c L s L.length ∧ WOk ws := by
  rcases h with ⟨-, h⟩ | ⟨hc, h⟩
  · exact absurd rfl h
  · rcases hc with ⟨-, h'⟩ | ⟨hl, hv⟩
    · exact absurd rfl h'
    · have k := ltR_ok hl
      rcases h with ⟨h, -⟩ | ⟨-, h⟩
      · rcases hv with ⟨hv, -⟩ | ⟨-, h'⟩
        · exact ⟨⟨k, h, rfl⟩, hv⟩
        · exact absurd h' (by decide)
      · exact absurd h (by decide)
set_option maxHeartbeats 1600000 in
theorem checkSweep_any (a b c p0 p1 p2 p3 p4 s r : Int) (ao : Option Addr) (cap : Nat) (L : List Q) (w : World) (h : LiesO w ao L) (hr : csR a b c L [p0, p1, p2, p3, p4] s r) (hlen : L.length ≤ 1000000) : Calls Tryz.prog 63 #[.agg #[.int .i64 a, .int .i64 b, .int .i64 c, .slice ao L.length cap], .agg #[.int .i64 p0, .int .i64 p1, .int .i64 p2, .int .i64 p3, .int .i64 p4], .int .i64 s] w fun e w' => e = .returned (.int .i64 r) ∧ Below w.heap.size w w' := by
  have h1 := Lib.hid h
  rcases hr with ⟨hr, h0⟩ | ⟨hr, hv⟩
  · have c1 := fun (W : World) h => checkWeighted_any a b c p0 p1 p2 p3 p4 r ao cap L W h hr hlen
    have h0' : (r != 0) = true := by simpa using h0
    have h0'' : (r == 0) = false := by simpa using h0
    clear h hr h0
    go_enter Tryz.func63, Tryz.ntmps63
    go_wp2_with (fail)
    refine (c1 _ (h1.out.later ba2)).mono ?_
    rintro e w5 ⟨rfl, hw5⟩
    go_wp2
    go_ret
    exact ⟨rfl, bel2 hw5⟩
  · have c1 := fun (W : World) h => checkWeighted_any a b c p0 p1 p2 p3 p4 0 ao cap L W h hr hlen
    have c2 := fun (W : World) => checkSeed_any s r W (hv.imp (fun h => ⟨h.1, h.2⟩) (fun h => ⟨h.1, h.2⟩))
    clear h hr hv
    go_enter Tryz.func63, Tryz.ntmps63
    go_wp2_with (fail)
    refine (c1 _ (h1.out.later ba2)).mono ?_
    rintro e w5 ⟨rfl, hw5⟩
    go_wp2_with (fail)
    refine (c2 _).mono ?_
    rintro e w6 ⟨rfl, rfl⟩
    go_wp2
    go_ret
    exact ⟨rfl, bel2 hw5⟩
end Go.Proofs.YtpfhjdmgkckjfaaGreatDoor

namespace Go.Proofs.YtpfhjdmgkckjfaaGreatDoor
set_option linter.unusedVariables false
set_option linter.unusedSimpArgs false
set_option maxRecDepth 1000000
open Go.ChangeShapes Go.WideShapes Go.ChangeAt Go.WideMaps Go.WideElems Go.RowKit Go.Joins Go.Deep

theorem gSteps : Tryz.prog.globalNamed "plaquette/chance.steps" = some 0 := by kernel_rfl
theorem tSteps : (Tryz.prog.globals[0]?).map (·.type) = some 174 := by kernel_rfl
theorem cI1 : Tryz.prog.cellsOf 3 = 1 := by kernel_rfl
theorem c322 : Tryz.prog.cellsOf 174 = 6 := by kernel_rfl
theorem c22 : Tryz.prog.cellsOf 173 = 2 := by kernel_rfl
theorem two_of_trod {H : Type} {enc : TypeId × Value → H} {w : World} {base : Nat} {sp : Nat → Bool} {held : Bool} {fuel : Nat} {u v : Value} {a b : Int} {m : List MemPlace} (h : DataW.trod enc Tryz.prog w base sp held fuel 173 [u, v] = some (.agg [.lit (.int .i64 a), .lit (.int .i64 b)], m)) : u = .int .i64 a ∧ v = .int .i64 b := by
  obtain ⟨xs, m1, _, hx1, _, hn, hel⟩ := DataW.trod_array Tryz.underlying173 h
  simp only [Prod.mk.injEq, DataW.agg.injEq] at hx1
  match xs, hn, hx1, hel with
  | [x0, x1], _, hx1, hel =>
    have h0 := hel 0 (by decide)
    have h1 := hel 1 (by decide)
    obtain ⟨k0, e0, f0, _⟩ := DataW.trod_int Tryz.underlying3 (show DataW.trod enc Tryz.prog w base sp held m1 3 [u] = some x0 by simpa [cI1] using h0)
    obtain ⟨k1, e1, f1, _⟩ := DataW.trod_int Tryz.underlying3 (show DataW.trod enc Tryz.prog w base sp held m1 3 [v] = some x1 by simpa [cI1] using h1)
    simp only [List.map_cons, List.map_nil, List.cons.injEq] at hx1
    rw [f0] at hx1
    rw [f1] at hx1
    simp at hx1 e0 e1
    obtain ⟨⟨rfl, rfl⟩, _⟩ := hx1
    exact ⟨e0, e1⟩
theorem sta_of_laid {W : World} (h : laidMetH Tryz.prog [("plaquette/chance.steps", Rows.laid_plaquette_chance_steps)] W) : StA W := by
  rw [MakeChecks.laidMetH_plain _ _ _ (by kernel_rfl)] at h
  obtain ⟨ps, ⟨g0, t0, cs0, f0, p0, q0, hg0, ht0, hv0, hd0, _, _⟩, _⟩ := h
  obtain rfl := Option.some.inj (gSteps.symm.trans hg0)
  obtain rfl := Option.some.inj (tSteps.symm.trans ht0)
  obtain ⟨xs, m1, hc, hx1, hsz, hn, hel⟩ := DataW.trod_array Tryz.underlying174 hd0
  simp only [Prod.mk.injEq, DataW.agg.injEq, Rows.laid_plaquette_chance_steps] at hx1
  have hlen : cs0.toList.length = 6 := by
    have := hsz
    simp [c322] at this
    simpa using this
  obtain ⟨cl⟩ := cs0
  match cl, hlen, xs, hn, hx1, hel with
  | [u0, u1, u2, u3, u4, u5], _, [x0, x1, x2], _, hx1, hel =>
    have h0 := hel 0 (by decide)
    have h1 := hel 1 (by decide)
    have h2 := hel 2 (by decide)
    simp only [List.map_cons, List.map_nil, List.cons.injEq] at hx1
    obtain ⟨⟨e0, e1, e2, _⟩, _⟩ := hx1
    simp [c22] at h0 h1 h2
    obtain ⟨d0, m0⟩ := x0
    obtain ⟨d1, m2⟩ := x1
    obtain ⟨d2, m3⟩ := x2
    simp only at e0 e1 e2
    subst e0 e1 e2
    obtain ⟨rfl, rfl⟩ := two_of_trod h0
    obtain ⟨rfl, rfl⟩ := two_of_trod h1
    obtain ⟨rfl, rfl⟩ := two_of_trod h2
    exact ⟨World.var?_cell hg0 hv0 0, World.var?_cell hg0 hv0 1, World.var?_cell hg0 hv0 2, World.var?_cell hg0 hv0 3, World.var?_cell hg0 hv0 4, World.var?_cell hg0 hv0 5⟩
end Go.Proofs.YtpfhjdmgkckjfaaGreatDoor
