/- Seeds and draws: the next seed, a draw among a number, and many steps at once, as the program and the document's answers make them.
Conditions: those written at each theorem. -/
import Derived.Test.YtpfhjdmgkckjfaaGreatDoorRows
import Derived.Test.YtpfhjdmgkckjfaaGreatDoorPMathA
import Derived.Test.YtpfhjdmgkckjfaaGreatDoorPRegA
import Derived.WalkKit
import Derived.WalkSpells
import Derived.WalkLawsBesides
import Derived.Lib.Hide
import Derived.BigQuiet
import Derived.Deep.DeepFit
import Derived.Test.YtpfhjdmgkckjfaaGreatDoorPCopR
import Derived.Test.YtpfhjdmgkckjfaaGreatDoorTie
import Derived.Test.YtpfhjdmgkckjfaaGreatDoorCards
import Derived.Test.YtpfhjdmgkckjfaaGreatDoorPDist
import Derived.Test.YtpfhjdmgkckjfaaGreatDoorPSidC
import Derived.ProofKit
import Derived.LaidMore
import Derived.SevenTiedAt
namespace Go.Proofs.YtpfhjdmgkckjfaaGreatDoor
set_option linter.unusedVariables false
set_option linter.unusedSimpArgs false
set_option maxRecDepth 1000000
open Go.RowKit
open Cm

set_option maxHeartbeats 400000 in
theorem chNext_any (s : Int) (w : World) (h : IsSeed s) : Calls Tryz.prog 70 #[.int .i64 s] w fun e w' => e = .returned (.int .i64 (nxt s)) ∧ w = w' := by
  obtain ⟨h1, h2⟩ := h
  go_enter Tryz.func70, Tryz.ntmps70
  go_wp2
  go_ret
  exact ⟨rfl, rfl⟩
/-- the error of a seed -/
def sdR (s r : Int) : Prop := (IsSeed s ∧ r = 0) ∨ (¬ IsSeed s ∧ r = 1)
set_option maxHeartbeats 400000 in
theorem checkSeed_any (s r : Int) (w : World) (h : sdR s r) : Calls Tryz.prog 69 #[.int .i64 s] w fun e w' => e = .returned (.int .i64 r) ∧ w = w' := by
  rcases h with ⟨⟨h1, h2⟩, rfl⟩ | ⟨h, rfl⟩
  · go_enter Tryz.func69, Tryz.ntmps69
    go_wp2
    go_ret
    exact ⟨rfl, rfl⟩
  · unfold IsSeed at h
    by_cases h1 : s < 1
    · clear h
      go_enter Tryz.func69, Tryz.ntmps69
      go_wp2
      go_ret
      exact ⟨rfl, rfl⟩
    · have h2 : 2147483647 ≤ s := by omega
      clear h
      go_enter Tryz.func69, Tryz.ntmps69
      go_wp2
      go_ret
      exact ⟨rfl, rfl⟩
end Go.Proofs.YtpfhjdmgkckjfaaGreatDoor

namespace Go.Proofs.YtpfhjdmgkckjfaaGreatDoor
set_option linter.unusedVariables false
set_option linter.unusedSimpArgs false
set_option maxRecDepth 1000000
open Go.RowKit
open Um Tm

set_option maxHeartbeats 1600000 in
theorem clone_some (bl off cap : Nat) (L : List Q) (w : World) (hl : Lies w bl off L) (hpos : 0 < L.length) (hlen : L.length ≤ 100) : Calls Tryz.prog 84 #[.slice (some ⟨bl, off, none⟩) L.length cap] w fun e w' => ∃ g k : Nat, e = .returned (.slice (some ⟨g, 0, none⟩) L.length k) ∧ LBox w' g L ∧ w.heap.size ≤ g ∧ Below w.heap.size w w' := by
  obtain ⟨i0, hi, hz0, hz1, hz2⟩ := info_parts infoU
  have H := Lib.hid hl
  have q := fun W : World => Lib.run_eql_slice_nil (P := Tryz.prog) W 23 73 (some ⟨bl, off, none⟩) L.length cap 0 0 Tryz.underlying23
  clear hl
  go_enter Tryz.func84, Tryz.ntmps84
  go_wp2_with (at_builtin; refine wpList_append_own _ rfl (.tmp 5) (.tmp 6) 23 rfl w.heap.size 73 i0 _ 5 40 Tryz.underlying23 hi hz0 hz1 hz2 rfl (by decide) (.slice (some ⟨w.heap.size, 0, none⟩) 0 0) 0 [] rfl (World.ownsRow_lit w #[] 0 (Nat.le_refl _) (by unfold maxLen; omega) (by simp)) ⟨bl, off, none⟩ L.length cap (L.flatMap uc) rfl (flat_len uc 5 uc_len L) (lies_news (H.out.later ((Below.refl _ _).alloc (Nat.le_refl _) _))) (lies_ones L) (by unfold maxLen; omega) (by omega) (by simp) ?_; intro v' w1 hown hgrow _)
  obtain ⟨g, k, rfl, hg⟩ := owned5_some hown (by omega)
  obtain ⟨LB, hgb⟩ := owned_LBox (Nat.zero_add _) (by simpa using hown)
  have hb := ((Below.refl w.heap.size w).alloc (Nat.le_refl _) (.cells #[] 73)).grown hgrow (by simp) (fun j hj => by simp [Value.ownBlock] at hj; omega)
  clear hown hgrow
  go_ret
  exact ⟨g, k, by simp, LB, hgb, hb⟩
end Go.Proofs.YtpfhjdmgkckjfaaGreatDoor

namespace Go.Proofs.YtpfhjdmgkckjfaaGreatDoor
set_option linter.unusedVariables false
set_option linter.unusedSimpArgs false
set_option maxRecDepth 1000000
open Go.ChangeShapes Go.WideShapes Go.ChangeAt Go.WideMaps Go.WideElems Go.RowKit Go.Joins Go.Deep

theorem gSteps : Tryz.prog.globalNamed "plaquette/chance.steps" = some 0 := by kernel_rfl
theorem tSteps : (Tryz.prog.globals[0]?).map (·.type) = some 174 := by kernel_rfl
theorem cI1 : Tryz.prog.cellsOf 3 = 1 := by kernel_rfl
theorem c322 : Tryz.prog.cellsOf 174 = 6 := by kernel_rfl
theorem c22 : Tryz.prog.cellsOf 173 = 2 := by kernel_rfl
theorem two_of_trod {H : Type} {enc : TypeId × Value → H} {w : World} {base : Nat} {sp : Nat → Bool} {held : Bool} {fuel : Nat} {u v : Value} {a b : Int} {m : List MemPlace} (h : DataW.trod enc Tryz.prog w base sp held fuel 173 [u, v] = some (.agg [.lit (.int .i64 a), .lit (.int .i64 b)], m)) : u = .int .i64 a ∧ v = .int .i64 b := by
  obtain ⟨xs, m1, _, hx1, _, hn, hel⟩ := DataW.trod_array Tryz.underlying173 h
  simp only [Prod.mk.injEq, DataW.agg.injEq] at hx1
  match xs, hn, hx1, hel with
  | [x0, x1], _, hx1, hel =>
    have h0 := hel 0 (by decide)
    have h1 := hel 1 (by decide)
    obtain ⟨k0, e0, f0, _⟩ := DataW.trod_int Tryz.underlying3 (show DataW.trod enc Tryz.prog w base sp held m1 3 [u] = some x0 by simpa [cI1] using h0)
    obtain ⟨k1, e1, f1, _⟩ := DataW.trod_int Tryz.underlying3 (show DataW.trod enc Tryz.prog w base sp held m1 3 [v] = some x1 by simpa [cI1] using h1)
    simp only [List.map_cons, List.map_nil, List.cons.injEq] at hx1
    rw [f0] at hx1
    rw [f1] at hx1
    simp at hx1 e0 e1
    obtain ⟨⟨rfl, rfl⟩, _⟩ := hx1
    exact ⟨e0, e1⟩
theorem sta_of_laid {W : World} (h : laidMetH Tryz.prog [("plaquette/chance.steps", Rows.laid_plaquette_chance_steps)] W) : StA W := by
  rw [MakeChecks.laidMetH_plain _ _ _ (by kernel_rfl)] at h
  obtain ⟨ps, ⟨g0, t0, cs0, f0, p0, q0, hg0, ht0, hv0, hd0, _, _⟩, _⟩ := h
  obtain rfl := Option.some.inj (gSteps.symm.trans hg0)
  obtain rfl := Option.some.inj (tSteps.symm.trans ht0)
  obtain ⟨xs, m1, hc, hx1, hsz, hn, hel⟩ := DataW.trod_array Tryz.underlying174 hd0
  simp only [Prod.mk.injEq, DataW.agg.injEq, Rows.laid_plaquette_chance_steps] at hx1
  have hlen : cs0.toList.length = 6 := by
    have := hsz
    simp [c322] at this
    simpa using this
  obtain ⟨cl⟩ := cs0
  match cl, hlen, xs, hn, hx1, hel with
  | [u0, u1, u2, u3, u4, u5], _, [x0, x1, x2], _, hx1, hel =>
    have h0 := hel 0 (by decide)
    have h1 := hel 1 (by decide)
    have h2 := hel 2 (by decide)
    simp only [List.map_cons, List.map_nil, List.cons.injEq] at hx1
    obtain ⟨⟨e0, e1, e2, _⟩, _⟩ := hx1
    simp [c22] at h0 h1 h2
    obtain ⟨d0, m0⟩ := x0
    obtain ⟨d1, m2⟩ := x1
    obtain ⟨d2, m3⟩ := x2
    simp only at e0 e1 e2
    subst e0 e1 e2
    obtain ⟨rfl, rfl⟩ := two_of_trod h0
    obtain ⟨rfl, rfl⟩ := two_of_trod h1
    obtain ⟨rfl, rfl⟩ := two_of_trod h2
    exact ⟨World.var?_cell hg0 hv0 0, World.var?_cell hg0 hv0 1, World.var?_cell hg0 hv0 2, World.var?_cell hg0 hv0 3, World.var?_cell hg0 hv0 4, World.var?_cell hg0 hv0 5⟩
end Go.Proofs.YtpfhjdmgkckjfaaGreatDoor
