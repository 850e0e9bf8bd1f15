/- Which fields are small, as the document's answers find it.
Conditions: the list lies in memory as it is written at each theorem. -/
import Derived.Test.YtpfhjdmgkckjfaaDoorQFieldC
import Derived.Test.YtpfhjdmgkckjfaaDoorQNumC
import Derived.Test.YtpfhjdmgkckjfaaDoorQChkC
import Derived.Test.YtpfhjdmgkckjfaaDoorQWlkA
import Derived.Test.YtpfhjdmgkckjfaaDoorQTorA
import Derived.Test.YtpfhjdmgkckjfaaDoorQRegA
import Derived.Test.YtpfhjdmgkckjfaaDoorQMathA
import Derived.Test.YtpfhjdmgkckjfaaDoorQSane5
import Derived.Test.YtpfhjdmgkckjfaaDoorQQuatB
import Derived.Test.YtpfhjdmgkckjfaaDoorQLBox
import Derived.Test.YtpfhjdmgkckjfaaDoorQTabB
import Derived.Test.YtpfhjdmgkckjfaaDoorQHeldC
import Derived.Deep.CutRange
import Derived.Test.YtpfhjdmgkckjfaaDoorQSmall
import Derived.Test.YtpfhjdmgkckjfaaDoorQOpen4
namespace Go.Proofs.YtpfhjdmgkckjfaaDoor
set_option linter.unusedVariables false
set_option linter.unusedSimpArgs false
set_option maxRecDepth 1000000
open Go.RowKit
open Um Tm

end Go.Proofs.YtpfhjdmgkckjfaaDoor

namespace Go.Proofs.YtpfhjdmgkckjfaaDoor
set_option linter.unusedVariables false
set_option linter.unusedSimpArgs false
set_option maxRecDepth 1000000
open Go.RowKit
open Um Tm Cm

end Go.Proofs.YtpfhjdmgkckjfaaDoor

namespace Go.Proofs.YtpfhjdmgkckjfaaDoor
set_option linter.unusedVariables false
set_option linter.unusedSimpArgs false
set_option maxRecDepth 1000000
open Go.RowKit
open Cm Tm

end Go.Proofs.YtpfhjdmgkckjfaaDoor

namespace Go.Proofs.YtpfhjdmgkckjfaaDoor
set_option linter.unusedVariables false
set_option linter.unusedSimpArgs false
set_option maxRecDepth 1000000
open Go.RowKit
open Um Tm

end Go.Proofs.YtpfhjdmgkckjfaaDoor

namespace Go.Proofs.YtpfhjdmgkckjfaaDoor
set_option linter.unusedVariables false
set_option linter.unusedSimpArgs false
set_option maxRecDepth 1000000
open Go.RowKit
open Um Tm

end Go.Proofs.YtpfhjdmgkckjfaaDoor

namespace Go.Proofs.YtpfhjdmgkckjfaaDoor
set_option linter.unusedVariables false
set_option linter.unusedSimpArgs false
set_option maxRecDepth 1000000
open Go.RowKit
open Um Tm

end Go.Proofs.YtpfhjdmgkckjfaaDoor

namespace Go.Proofs.YtpfhjdmgkckjfaaDoor
set_option linter.unusedVariables false
set_option linter.unusedSimpArgs false
set_option maxRecDepth 1000000
open Go.RowKit
open Um Tm Cm

/-- the seed behind k draws -/
def advN (s : Int) : Nat → Int
  | 0 => s
  | k + 1 => adv (advN s k)
/-- the units that k draws give -/
def uns (s : Int) : Nat → List Q
  | 0 => []
  | k + 1 => uns s k ++ [small (drw (advN s k) 24)]
/-- a generator in its box, to be read and written -/
structure GBox (w : World) (B : Nat) (s : Int) : Prop where
  c : w.cell? ⟨B, 0, none⟩ = some (.int .i64 s)
  f : w.frozen? ⟨B, 0, none⟩ = false
  lt : B < w.heap.size
theorem GBox.later {w w1 : World} {B : Nat} {s : Int} (h : GBox w B s) (hb : Below w.heap.size w w1) : GBox w1 B s :=
  ⟨(hb.cell h.lt).trans h.c, (hb.frozen (p := ⟨B, 0, none⟩) h.lt).trans h.f, Nat.lt_of_lt_of_le h.lt hb.size⟩
theorem GBox.grown {w w1 : World} {B : Nat} {s : Int} {row : Option Nat} (h : GBox w B s) (hg : w.grownBy w1 row) (hne : some B ≠ row) : GBox w1 B s :=
  ⟨hg.cell h.c hne, (World.frozen?_of_block (a := ⟨B, 0, none⟩) (hg.block B h.lt hne)).trans h.f, Nat.lt_of_lt_of_le h.lt hg.size⟩
theorem GBox.set {w : World} {B : Nat} {s : Int} (h : GBox w B s) (t : Int) : GBox (w.setCell ⟨B, 0, none⟩ (.int .i64 t)) B t :=
  ⟨World.cell?_setCell_same _ _ _ h.c, by rw [World.frozen?_setCell]; exact h.f, by simp [World.setCell]; exact h.lt⟩

def RetU (m : Nat) (L : List Q) (e : Ending) (w' : World) : Prop := ∃ g k : Nat, e = .returned (.tuple #[.slice (some ⟨g, 0, none⟩) L.length k, .int .i64 0]) ∧ Lies w' g 0 L ∧ m ≤ g
end Go.Proofs.YtpfhjdmgkckjfaaDoor

namespace Go.Proofs.YtpfhjdmgkckjfaaDoor
set_option linter.unusedVariables false
set_option linter.unusedSimpArgs false
set_option maxRecDepth 1000000
open Go.RowKit
open Um Tm Cm

def RetU3 (m : Nat) (L : List Q) (t : Int) (e : Ending) (w' : World) : Prop := ∃ g k : Nat, e = .returned (.tuple #[.slice (some ⟨g, 0, none⟩) L.length k, .int .i64 t, .int .i64 0]) ∧ Lies w' g 0 L ∧ m ≤ g
def RetF3 (a b c : Int) (L : List Q) (t : Int) (e : Ending) (w' : World) : Prop := ∃ g k : Nat, e = .returned (.tuple #[.agg #[.int .i64 a, .int .i64 b, .int .i64 c, .slice (some ⟨g, 0, none⟩) L.length k], .int .i64 t, .int .i64 0]) ∧ Lies w' g 0 L
/-- sizes and a seed: the error -/
def ssR (a b c s r : Int) : Prop := (¬ Sz a b c ∧ r = 1) ∨ (Sz a b c ∧ ¬ IsSeed s ∧ r = 1)
end Go.Proofs.YtpfhjdmgkckjfaaDoor

namespace Go.Proofs.YtpfhjdmgkckjfaaDoor
set_option linter.unusedVariables false
set_option linter.unusedSimpArgs false
set_option maxRecDepth 1000000
open Go.RowKit
open Um Tm

set_option maxHeartbeats 1600000 in
theorem clone_some (bl off cap : Nat) (L : List Q) (w : World) (hl : Lies w bl off L) (hpos : 0 < L.length) (hlen : L.length ≤ 100) : Calls Tryd.prog 43 #[.slice (some ⟨bl, off, none⟩) L.length cap] w fun e w' => ∃ g k : Nat, e = .returned (.slice (some ⟨g, 0, none⟩) L.length k) ∧ LBox w' g L ∧ w.heap.size ≤ g ∧ Below w.heap.size w w' := by
  obtain ⟨i0, hi, hz0, hz1, hz2⟩ := info_parts infoU
  have H := Lib.hid hl
  have q := fun W : World => Lib.run_eql_slice_nil (P := Tryd.prog) W 23 44 (some ⟨bl, off, none⟩) L.length cap 0 0 Tryd.underlying23
  clear hl
  go_enter Tryd.func43, Tryd.ntmps43
  go_wp2_with (at_builtin; refine wpList_append_own _ rfl (.tmp 5) (.tmp 6) 23 rfl w.heap.size 44 i0 _ 5 40 Tryd.underlying23 hi hz0 hz1 hz2 rfl (by decide) (.slice (some ⟨w.heap.size, 0, none⟩) 0 0) 0 [] rfl (World.ownsRow_lit w #[] 0 (Nat.le_refl _) (by unfold maxLen; omega) (by simp)) ⟨bl, off, none⟩ L.length cap (L.flatMap uc) rfl (flat_len uc 5 uc_len L) (lies_news (H.out.later ((Below.refl _ _).alloc (Nat.le_refl _) _))) (lies_ones L) (by unfold maxLen; omega) (by omega) (by simp) ?_; intro v' w1 hown hgrow _)
  obtain ⟨g, k, rfl, hg⟩ := owned5_some hown (by omega)
  obtain ⟨LB, hgb⟩ := owned_LBox (Nat.zero_add _) (by simpa using hown)
  have hb := ((Below.refl w.heap.size w).alloc (Nat.le_refl _) (.cells #[] 44)).grown hgrow (by simp) (fun j hj => by simp [Value.ownBlock] at hj; omega)
  clear hown hgrow
  go_ret
  exact ⟨g, k, by simp, LB, hgb, hb⟩
end Go.Proofs.YtpfhjdmgkckjfaaDoor
