/- The inverses of a gauge transformation, as the program and the document's answers make them.
Conditions: the lists lie in memory as it is written at each theorem. -/
import Derived.Test.YtpfhjdmgkckjfaaGreatDoorRSane5
import Derived.Test.YtpfhjdmgkckjfaaGreatDoorRQuatB
import Derived.Test.YtpfhjdmgkckjfaaGreatDoorRLBox
import Derived.Test.YtpfhjdmgkckjfaaGreatDoorRTabB
import Derived.Test.YtpfhjdmgkckjfaaGreatDoorRDrawO
import Derived.Test.YtpfhjdmgkckjfaaGreatDoorRSmall
import Derived.Test.YtpfhjdmgkckjfaaGreatDoorRCold
namespace Go.Proofs.YtpfhjdmgkckjfaaGreatDoor
set_option linter.unusedVariables false
set_option linter.unusedSimpArgs false
set_option maxRecDepth 1000000
open Go.RowKit
open Um Tm

set_option maxHeartbeats 400000 in
theorem refBar_any (x : Q) (w : World) (h : V x) (h5 : x.n ≤ 5) : Calls Tryz.prog 71 #[.agg #[.int .i64 x.a, .int .i64 x.b, .int .i64 x.c, .int .i64 x.d, .int .i64 x.n]] w fun e w' => e = .returned (.agg #[.int .i64 (bar x).a, .int .i64 (bar x).b, .int .i64 (bar x).c, .int .i64 (bar x).d, .int .i64 (bar x).n]) ∧ Below w.heap.size w w' := by
  have i := V.in h
  have e1 : IntKind.i64.wrap (-x.b) = -x.b := IntWalk.i64_in _ (by have := i.b; omega)
  have e2 : IntKind.i64.wrap (-x.c) = -x.c := IntWalk.i64_in _ (by have := i.c; omega)
  have e3 : IntKind.i64.wrap (-x.d) = -x.d := IntWalk.i64_in _ (by have := i.d; omega)
  obtain ⟨ib1, ib2⟩ := i.b
  obtain ⟨ic1, ic2⟩ := i.c
  obtain ⟨id1, id2⟩ := i.d
  clear h i
  go_enter Tryz.func71, Tryz.ntmps71
  go_wp2
  refine bodyPost_ret (v := .agg #[.int .i64 (bar x).a, .int .i64 (bar x).b, .int .i64 (bar x).c, .int .i64 (bar x).d, .int .i64 (bar x).n]) ?_ rfl ⟨rfl, ?_⟩
  · simp [results, Tryz.results71, go_sem, bar, e1, e2, e3]
  · repeat (first | (with_reducible exact Below.refl _ _) | (with_reducible refine Below.setCell ?_ ?_ _) | (with_reducible refine Below.drew ?_) | (with_reducible refine Below.alloc ?_ ?_ _) | omega | (simp <;> omega))
end Go.Proofs.YtpfhjdmgkckjfaaGreatDoor

namespace Go.Proofs.YtpfhjdmgkckjfaaGreatDoor
set_option linter.unusedVariables false
set_option linter.unusedSimpArgs false
set_option maxRecDepth 1000000
open Go.RowKit
open Um Tm Cm

/-- the seed behind k draws -/
def advN (s : Int) : Nat → Int
  | 0 => s
  | k + 1 => adv (advN s k)
/-- the units that k draws give -/
def uns (s : Int) : Nat → List Q
  | 0 => []
  | k + 1 => uns s k ++ [small (drw (advN s k) 24)]
/-- a generator in its box, to be read and written -/
structure GBox (w : World) (B : Nat) (s : Int) : Prop where
  c : w.cell? ⟨B, 0, none⟩ = some (.int .i64 s)
  f : w.frozen? ⟨B, 0, none⟩ = false
  lt : B < w.heap.size
theorem GBox.later {w w1 : World} {B : Nat} {s : Int} (h : GBox w B s) (hb : Below w.heap.size w w1) : GBox w1 B s :=
  ⟨(hb.cell h.lt).trans h.c, (hb.frozen (p := ⟨B, 0, none⟩) h.lt).trans h.f, Nat.lt_of_lt_of_le h.lt hb.size⟩
theorem GBox.grown {w w1 : World} {B : Nat} {s : Int} {row : Option Nat} (h : GBox w B s) (hg : w.grownBy w1 row) (hne : some B ≠ row) : GBox w1 B s :=
  ⟨hg.cell h.c hne, (World.frozen?_of_block (a := ⟨B, 0, none⟩) (hg.block B h.lt hne)).trans h.f, Nat.lt_of_lt_of_le h.lt hg.size⟩
theorem GBox.set {w : World} {B : Nat} {s : Int} (h : GBox w B s) (t : Int) : GBox (w.setCell ⟨B, 0, none⟩ (.int .i64 t)) B t :=
  ⟨World.cell?_setCell_same _ _ _ h.c, by rw [World.frozen?_setCell]; exact h.f, by simp [World.setCell]; exact h.lt⟩

def RetU (m : Nat) (L : List Q) (e : Ending) (w' : World) : Prop := ∃ g k : Nat, e = .returned (.tuple #[.slice (some ⟨g, 0, none⟩) L.length k, .int .i64 0]) ∧ Lies w' g 0 L ∧ m ≤ g
end Go.Proofs.YtpfhjdmgkckjfaaGreatDoor
