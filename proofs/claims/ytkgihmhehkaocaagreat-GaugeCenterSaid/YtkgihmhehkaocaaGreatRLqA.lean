/- The plaquettes of a field, on both sides: what a good field and a bad one lead to.
Conditions: those written at each theorem. -/
import Derived.Test.YtkgihmhehkaocaaGreatRPlaqA
import Derived.Test.YtkgihmhehkaocaaGreatRLtA
import Derived.Test.YtkgihmhehkaocaaGreatRLmA
import Derived.Test.YtkgihmhehkaocaaGreatRLooA
import Derived.Test.YtkgihmhehkaocaaGreatRIsSm
import Derived.Test.YtkgihmhehkaocaaGreatRIBox
import Derived.Test.YtkgihmhehkaocaaGreatRMathA
namespace Go.Proofs.YtkgihmhehkaocaaGreat
set_option linter.unusedVariables false
set_option linter.unusedSimpArgs false
set_option maxRecDepth 1000000
open Go.RowKit
open Um Tm

theorem plaquettes_lies (a b c : Int) (bl off cap N : Nat) (L : List Q) (w : World) (hl : Lies w bl off L) (hF : Fl a b c L) (hN : (N : Int) = a * b * c) :
    Calls Tryz.prog 19 #[.agg #[.int .i64 a, .int .i64 b, .int .i64 c, .slice (some ⟨bl, off, none⟩) L.length cap]] w fun e w' => ∃ g k : Nat, e = .returned (.tuple #[.slice (some ⟨g, 0, none⟩) (3 * N) k, .int .i64 0]) ∧ Lies w' g 0 (pqs a b c L (3 * N)) ∧ Below w.heap.size w w' := by
  have hp := hF.z.p
  have hn := hF.n
  obtain ⟨-, -, p3, -⟩ := mul_rng hF.z.a1 hF.z.a4 hF.z.b1 hF.z.b4 hF.z.c1 hF.z.c4
  refine (plaquettes_good a b c bl off cap N L w hl hF (Fl_fldR hF) hF.z hN (by omega)).mono ?_
  rintro e w' ⟨v, he, hown, hb⟩
  rw [pqs_plqs] at hown
  obtain ⟨g, k, rfl, -⟩ := owned5_some hown (by omega)
  exact ⟨g, k, he, owned_lies (T := 55) (base := w.heap.size) (cap := k) (by rw [pqs_len]; exact hown), hb⟩

end Go.Proofs.YtkgihmhehkaocaaGreat

/- The traces of all plaquettes, and their mean, as the program and the document's answers make them.
Conditions: the lists lie in memory as it is written at each theorem. -/
namespace Go.Proofs.YtkgihmhehkaocaaGreat
set_option linter.unusedVariables false
set_option linter.unusedSimpArgs false
set_option maxRecDepth 1000000
open Go.RowKit
open Um Tm Lm

theorem infoRt : (Tryz.prog.info? 46).map (fun i => (i.zero, i.size, i.bytes)) = some (some (.agg #[.int .i64 0, .int .i64 0]), 2, 16) := by kernel_rfl
theorem rt_ones (x y : Int) : ∀ u ∈ [vi x, vi y], u.oneCell' = true := fun u hu => by
  simp at hu
  rcases hu with rfl | rfl <;> rfl
theorem rl_take {l : List (Int × Int)} {k : Nat} (h : k < l.length) : (rl (l.take (k + 1))).map vi = (rl (l.take k)).map vi ++ [vi l[k].1, vi l[k].2] := by
  unfold rl
  rw [take_flat _ l k h, List.map_append]
  rfl
theorem rl_owned {w : World} {base : Nat} {v : Value} {n : Nat} {l : List (Int × Int)} (h : w.ownsRow base 46 2 v n ((rl l).map vi)) (hl : l.length = n) : ∃ ao cap, v = .slice ao n cap ∧ LiesOI w ao (rl l) := by
  have hc := h.2
  rcases hc with ⟨rfl, h0⟩ | ⟨g, cap, cur, rfl, hg, _⟩
  · refine ⟨none, 0, by rw [h0], .inl ?_⟩
    rw [h0] at hl
    rw [List.length_eq_zero_iff.1 hl]
    rfl
  · refine ⟨_, cap, rfl, .inr ⟨g, 0, rfl, fun i x hx => ?_⟩⟩
    have hi : i < (rl l).length := (List.getElem?_eq_some_iff.1 hx).1
    rw [rl_len] at hi
    rw [Nat.zero_add, h.cellAt i (by omega), List.getElem?_map, hx]
    rfl
def trs (a b c : Int) (L : List Q) (k : Nat) : List (Int × Int) := (pqs a b c L k).map tr
end Go.Proofs.YtkgihmhehkaocaaGreat

/- The mean of the traces of all plaquettes, and how many have each trace, as the program and the document's answers make them.
Conditions: the lists lie in memory as it is written at each theorem. -/
namespace Go.Proofs.YtkgihmhehkaocaaGreat
set_option linter.unusedVariables false
set_option linter.unusedSimpArgs false
set_option maxRecDepth 1000000
open Go.RowKit
open Um Tm Lm Km

def z5 : Value := .agg #[.int .i64 0, .int .i64 0, .int .i64 0, .int .i64 0, .int .i64 0]
/-- how many numbers have a numerator -/
def hcs (v : Int) : List (Int × Int) → Int
  | [] => 0
  | r :: l => (if r.1 = v then 1 else 0) + hcs v l
def hl5 (l : List (Int × Int)) : List Int := [hcs (-2) l, hcs (-1) l, hcs 0 l, hcs 1 l, hcs 2 l]
def h5 (l : List (Int × Int)) : Value := .agg #[.int .i64 (hcs (-2) l), .int .i64 (hcs (-1) l), .int .i64 (hcs 0 l), .int .i64 (hcs 1 l), .int .i64 (hcs 2 l)]
end Go.Proofs.YtkgihmhehkaocaaGreat
