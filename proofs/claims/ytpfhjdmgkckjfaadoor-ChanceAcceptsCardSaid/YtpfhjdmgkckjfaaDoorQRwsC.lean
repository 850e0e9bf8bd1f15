/- The links of a plaquette, and the plaquettes of a link, as the document's answers make them.
Conditions: those written at each theorem. -/
import Derived.Test.YtpfhjdmgkckjfaaDoorQGbC
import Derived.Test.YtpfhjdmgkckjfaaDoorQThrC
import Derived.Test.YtpfhjdmgkckjfaaDoorQOpen4
import Derived.Test.YtpfhjdmgkckjfaaDoorQDist
import Derived.Test.YtpfhjdmgkckjfaaDoorQHeldC
import Derived.Deep.CutRange
import Derived.Test.YtpfhjdmgkckjfaaDoorQWtsC
import Derived.Test.YtpfhjdmgkckjfaaDoorQHotR
import Derived.Test.YtpfhjdmgkckjfaaDoorQChkC
import Derived.Test.YtpfhjdmgkckjfaaDoorQWlkA
import Derived.Test.YtpfhjdmgkckjfaaDoorChecked
import Derived.Test.YtpfhjdmgkckjfaaDoorRows
import Derived.JoinedOf
import Derived.KernelRfl
namespace Go.Proofs.YtpfhjdmgkckjfaaDoor
set_option linter.unusedVariables false
set_option linter.unusedSimpArgs false
set_option maxRecDepth 1000000
open Go.RowKit
open Cm Tm

/-- the plaquettes of a link among the first ones -/
def thrK (a b c l : Int) (k : Nat) : List Int := ((List.range k).map Int.ofNat).filter (has a b c l)
end Go.Proofs.YtpfhjdmgkckjfaaDoor

namespace Go.Proofs.YtpfhjdmgkckjfaaDoor
set_option linter.unusedVariables false
set_option linter.unusedSimpArgs false
set_option maxRecDepth 1000000
open Go.RowKit
open Um Tm Cm

theorem sm_n5 {x : Q} (h : Sm x) : x.n ≤ 5 := by have := h.facts.2.1; omega
end Go.Proofs.YtpfhjdmgkckjfaaDoor

namespace Go.Proofs.YtpfhjdmgkckjfaaDoor
set_option linter.unusedVariables false
set_option linter.unusedSimpArgs false
set_option maxRecDepth 1000000
open Go.RowKit
open Um Tm Cm

/-- what lies in memory while weights are reckoned -/
structure Ws5 (w X : World) (a b c : Int) (v : Value) (ws : List Int) (ob : Nat) (ao : Option Addr) (ps : List Int) : Prop where
  f : FW X w.heap.size a b c v
  wb : WB X (w.heap.size + 1) ws
  r : ABx X (w.heap.size + 1 + 1) 31 zero24
  ps : ∃ pb po, ao = some ⟨pb, po, none⟩ ∧ pb < ob ∧ LiesI X pb po ps
  o : w.heap.size + 1 + 1 < ob
  b : Below w.heap.size w X
theorem Ws5.later {w X Y : World} {a b c : Int} {v : Value} {ws : List Int} {ob : Nat} {ao : Option Addr} {ps : List Int} (h : Ws5 w X a b c v ws ob ao ps) (hb : Below X.heap.size X Y) : Ws5 w Y a b c v ws ob ao ps :=
  ⟨h.f.later hb, h.wb.later hb, h.r.later hb, by obtain ⟨pb, po, e, h1, h2⟩ := h.ps; exact ⟨pb, po, e, h1, h2.later hb⟩, h.o, h.b.trans (hb.mono h.b.size)⟩
theorem belDG5 {w w1 : World} (h : Below w.drew.heap.size w.drew w1) : Below w.heap.size w w1 := ⟨h.os, h.tape, h.output, h.size, h.block⟩
/-- the product of the first weights -/
def wpre (a b c : Int) (L : List Q) (ws : List Int) (l : Int) (u : Q) (ps : List Int) (i : Nat) : Int := wprod a b c L ws l u (ps.take i)
end Go.Proofs.YtpfhjdmgkckjfaaDoor

namespace Go.Proofs.YtpfhjdmgkckjfaaDoor
set_option linter.unusedVariables false
set_option linter.unusedSimpArgs false
set_option maxRecDepth 1000000
open Go.RowKit
open Um Tm Cm

end Go.Proofs.YtpfhjdmgkckjfaaDoor

namespace Go.Proofs.YtpfhjdmgkckjfaaDoor
set_option linter.unusedVariables false
set_option linter.unusedSimpArgs false
set_option maxRecDepth 1000000
open Go.RowKit
open Um Tm Cm

theorem long5_any (a b c : Int) (ao : Option Addr) (cap : Nat) (L : List Q) (d : Bool) (w : World) (h : (200 < L.length ∧ d = true) ∨ (L.length ≤ 200 ∧ d = false)) : Calls Tryd.prog 6 #[.agg #[.int .i64 a, .int .i64 b, .int .i64 c, .slice ao L.length cap]] w fun e w' => e = .returned (.bool d) ∧ Below w.heap.size w w' := by
  rcases h with ⟨h, rfl⟩ | ⟨h, rfl⟩
  · have h2 : (L.length : Int) > 200 := by omega
    go_enter Tryd.func6, Tryd.ntmps6
    go_wp2
    go_ret
    exact ⟨rfl, ba1⟩
  · have h2 : ¬ (L.length : Int) > 200 := by omega
    go_enter Tryd.func6, Tryd.ntmps6
    go_wp2
    go_ret
    exact ⟨rfl, ba1⟩
theorem lies_of5 {w : World} {ao : Option Addr} {L : List Q} (h : LiesO w ao L) (hp : 0 < L.length) : ∃ b f, ao = some ⟨b, f, none⟩ ∧ Lies w b f L := by
  rcases h with h | h
  · rw [h] at hp; simp at hp
  · exact h
end Go.Proofs.YtpfhjdmgkckjfaaDoor

namespace Go.Proofs.YtpfhjdmgkckjfaaDoor
set_option linter.unusedVariables false
set_option linter.unusedSimpArgs false
set_option maxRecDepth 1000000
open Go Go.Proofs

theorem band {a b : Bool} (ha : a = true) (hb : b = true) : (a && b) = true := by rw [ha, hb]; rfl
theorem jf1 : (laidOutB Tryd.prog) = true := by kernel_rfl
theorem jf2 : (mapsRowed Tryd.prog) = true := by kernel_rfl
theorem jf6 : ((Tryd.prog.stops == [])) = true := by kernel_rfl
theorem jf8 : ((Tryd.prog.stopKnobs == [])) = true := by kernel_rfl
theorem jf24 : (Tryd.prog.stopsHeard) = true := by kernel_rfl
theorem jf25 : (Tryd.prog.mayEnter) = true := by kernel_rfl
theorem jf26 : (false == Tryd.prog.liftsFinal) = true := by kernel_rfl
theorem jf27 : (Tryd.prog.make == some Make.cut) = true := by kernel_rfl
end Go.Proofs.YtpfhjdmgkckjfaaDoor
