/- Weights: the weights of the values of a link, as the program makes them.
Conditions: those written at each theorem; the variable steps holds what the program's text lays. -/
import Derived.Test.YtpfhjdmgkckjfaaGreatDoorAChkC
import Derived.Test.YtpfhjdmgkckjfaaGreatDoorAWlkA
import Derived.Test.YtpfhjdmgkckjfaaGreatDoorASortC
import Derived.Test.YtpfhjdmgkckjfaaGreatDoorAQuatB
import Derived.Test.YtpfhjdmgkckjfaaGreatDoorADraws
import Derived.Test.YtpfhjdmgkckjfaaGreatDoorATabB
import Derived.Test.YtpfhjdmgkckjfaaGreatDoorASmall
import Derived.Test.YtpfhjdmgkckjfaaGreatDoorAShelf
namespace Go.Proofs.YtpfhjdmgkckjfaaGreatDoor
set_option linter.unusedVariables false
set_option linter.unusedSimpArgs false
set_option maxRecDepth 1000000
open Go.RowKit
open Um Tm Cm

/-- the weights of the values, as the program reckons them -/
def wsA (a b c : Int) (L : List Q) (ws : List Int) (l : Int) : Array Value := ((wsK a b c L ws l (thr a b c l) 24).map vi).toArray
theorem wsA_sz (a b c : Int) (L : List Q) (ws : List Int) (l : Int) : (wsA a b c L ws l).size = 24 := by simp [wsA, wsK_len]
theorem wsA_one (a b c : Int) (L : List Q) (ws : List Int) (l : Int) : (wsA a b c L ws l).all (·.oneCell') = true := wsOne _
end Go.Proofs.YtpfhjdmgkckjfaaGreatDoor

namespace Go.Proofs.YtpfhjdmgkckjfaaGreatDoor
set_option linter.unusedVariables false
set_option linter.unusedSimpArgs false
set_option maxRecDepth 1000000
open Go.RowKit
open Um Tm

set_option maxHeartbeats 400000 in
theorem refBar_any (x : Q) (w : World) (h : V x) (h5 : x.n ≤ 5) : Calls Tryz.prog 71 #[.agg #[.int .i64 x.a, .int .i64 x.b, .int .i64 x.c, .int .i64 x.d, .int .i64 x.n]] w fun e w' => e = .returned (.agg #[.int .i64 (bar x).a, .int .i64 (bar x).b, .int .i64 (bar x).c, .int .i64 (bar x).d, .int .i64 (bar x).n]) ∧ Below w.heap.size w w' := by
  have i := V.in h
  have e1 : IntKind.i64.wrap (-x.b) = -x.b := IntWalk.i64_in _ (by have := i.b; omega)
  have e2 : IntKind.i64.wrap (-x.c) = -x.c := IntWalk.i64_in _ (by have := i.c; omega)
  have e3 : IntKind.i64.wrap (-x.d) = -x.d := IntWalk.i64_in _ (by have := i.d; omega)
  obtain ⟨ib1, ib2⟩ := i.b
  obtain ⟨ic1, ic2⟩ := i.c
  obtain ⟨id1, id2⟩ := i.d
  clear h i
  go_enter Tryz.func71, Tryz.ntmps71
  go_wp2
  refine bodyPost_ret (v := .agg #[.int .i64 (bar x).a, .int .i64 (bar x).b, .int .i64 (bar x).c, .int .i64 (bar x).d, .int .i64 (bar x).n]) ?_ rfl ⟨rfl, ?_⟩
  · simp [results, Tryz.results71, go_sem, bar, e1, e2, e3]
  · repeat (first | (with_reducible exact Below.refl _ _) | (with_reducible refine Below.setCell ?_ ?_ _) | (with_reducible refine Below.drew ?_) | (with_reducible refine Below.alloc ?_ ?_ _) | omega | (simp <;> omega))
end Go.Proofs.YtpfhjdmgkckjfaaGreatDoor

namespace Go.Proofs.YtpfhjdmgkckjfaaGreatDoor
set_option linter.unusedVariables false
set_option linter.unusedSimpArgs false
set_option maxRecDepth 1000000
open Go.RowKit
open Um Tm Cm

/-- the seed behind k draws -/
def advN (s : Int) : Nat → Int
  | 0 => s
  | k + 1 => adv (advN s k)
/-- the units that k draws give -/
def uns (s : Int) : Nat → List Q
  | 0 => []
  | k + 1 => uns s k ++ [small (drw (advN s k) 24)]
/-- a generator in its box, to be read and written -/
structure GBox (w : World) (B : Nat) (s : Int) : Prop where
  c : w.cell? ⟨B, 0, none⟩ = some (.int .i64 s)
  f : w.frozen? ⟨B, 0, none⟩ = false
  lt : B < w.heap.size
theorem GBox.later {w w1 : World} {B : Nat} {s : Int} (h : GBox w B s) (hb : Below w.heap.size w w1) : GBox w1 B s :=
  ⟨(hb.cell h.lt).trans h.c, (hb.frozen (p := ⟨B, 0, none⟩) h.lt).trans h.f, Nat.lt_of_lt_of_le h.lt hb.size⟩
theorem GBox.grown {w w1 : World} {B : Nat} {s : Int} {row : Option Nat} (h : GBox w B s) (hg : w.grownBy w1 row) (hne : some B ≠ row) : GBox w1 B s :=
  ⟨hg.cell h.c hne, (World.frozen?_of_block (a := ⟨B, 0, none⟩) (hg.block B h.lt hne)).trans h.f, Nat.lt_of_lt_of_le h.lt hg.size⟩
theorem GBox.set {w : World} {B : Nat} {s : Int} (h : GBox w B s) (t : Int) : GBox (w.setCell ⟨B, 0, none⟩ (.int .i64 t)) B t :=
  ⟨World.cell?_setCell_same _ _ _ h.c, by rw [World.frozen?_setCell]; exact h.f, by simp [World.setCell]; exact h.lt⟩

def RetU (m : Nat) (L : List Q) (e : Ending) (w' : World) : Prop := ∃ g k : Nat, e = .returned (.tuple #[.slice (some ⟨g, 0, none⟩) L.length k, .int .i64 0]) ∧ Lies w' g 0 L ∧ m ≤ g
end Go.Proofs.YtpfhjdmgkckjfaaGreatDoor

namespace Go.Proofs.YtpfhjdmgkckjfaaGreatDoor
set_option linter.unusedVariables false
set_option linter.unusedSimpArgs false
set_option maxRecDepth 1000000
open Go.RowKit
open Um Tm Cm

def RetU3 (m : Nat) (L : List Q) (t : Int) (e : Ending) (w' : World) : Prop := ∃ g k : Nat, e = .returned (.tuple #[.slice (some ⟨g, 0, none⟩) L.length k, .int .i64 t, .int .i64 0]) ∧ Lies w' g 0 L ∧ m ≤ g
def RetF3 (a b c : Int) (L : List Q) (t : Int) (e : Ending) (w' : World) : Prop := ∃ g k : Nat, e = .returned (.tuple #[.agg #[.int .i64 a, .int .i64 b, .int .i64 c, .slice (some ⟨g, 0, none⟩) L.length k], .int .i64 t, .int .i64 0]) ∧ Lies w' g 0 L
/-- sizes and a seed: the error -/
def ssR (a b c s r : Int) : Prop := (¬ Sz a b c ∧ r = 1) ∨ (Sz a b c ∧ ¬ IsSeed s ∧ r = 1)
end Go.Proofs.YtpfhjdmgkckjfaaGreatDoor

namespace Go.Proofs.YtpfhjdmgkckjfaaGreatDoor
set_option linter.unusedVariables false
set_option linter.unusedSimpArgs false
set_option maxRecDepth 1000000
section
open Go.ChangeShapes Go.WideShapes Go.ChangeAt Go.RowKit Go.Joins Go.Deep
variable {H : Type} {enc : TypeId × Value → H} {w : World} {base : Nat} {spare : Nat → Bool} {held : Bool}
theorem cellsW5 : Tryz.prog.cellsOf 26 = 5 := by kernel_rfl
theorem open_w5 {r : Reach} {b0 : Nat} {v : Value} {d : DataW H} {p : List MemPlace} (hv : Value.okWide Tryz.prog w r b0 26 v) (h : DataW.Trod enc Tryz.prog w base spare held 26 v d p) : ∃ (x y z t s : Int), v = .agg #[.int .i64 x, .int .i64 y, .int .i64 z, .int .i64 t, .int .i64 s] := by
  have hagg : ∃ cs, v = .agg cs ∧ cs.size = Tryz.prog.cellsOf 26 := by
    simp only [Value.okWide, Tryz.underlying26] at hv
    obtain ⟨cs, h1, h2, _⟩ := hv
    exact ⟨cs, h1, h2⟩
  obtain ⟨cs, rfl, hsz⟩ := hagg
  obtain ⟨l⟩ := cs
  match l, hsz.trans cellsW5 with
  | [c0, c1, c2, c3, c4], _ =>
    obtain ⟨fuel, hf⟩ := h
    obtain ⟨xs, n, _, _, _, hlen, hg⟩ := DataW.trod_array Tryz.underlying26 hf
    match xs, hlen with
    | [y0, y1, y2, y3, y4], _ =>
      obtain ⟨a, e0, _, _⟩ := DataW.trod_int Tryz.underlying3 (show DataW.trod enc Tryz.prog w base spare held n 3 [c0] = some y0 by simpa [Value.cells, cells3] using hg 0 (by omega))
      obtain ⟨b, e1, _, _⟩ := DataW.trod_int Tryz.underlying3 (show DataW.trod enc Tryz.prog w base spare held n 3 [c1] = some y1 by simpa [Value.cells, cells3] using hg 1 (by omega))
      obtain ⟨c, e2, _, _⟩ := DataW.trod_int Tryz.underlying3 (show DataW.trod enc Tryz.prog w base spare held n 3 [c2] = some y2 by simpa [Value.cells, cells3] using hg 2 (by omega))
      obtain ⟨d, e3, _, _⟩ := DataW.trod_int Tryz.underlying3 (show DataW.trod enc Tryz.prog w base spare held n 3 [c3] = some y3 by simpa [Value.cells, cells3] using hg 3 (by omega))
      obtain ⟨f, e4, _, _⟩ := DataW.trod_int Tryz.underlying3 (show DataW.trod enc Tryz.prog w base spare held n 3 [c4] = some y4 by simpa [Value.cells, cells3] using hg 4 (by omega))
      simp at e0 e1 e2 e3 e4
      subst e0 e1 e2 e3 e4
      exact ⟨a, b, c, d, f, rfl⟩
end
end Go.Proofs.YtpfhjdmgkckjfaaGreatDoor
