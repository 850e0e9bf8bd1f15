/- Weights, as the document's answers hand them back.
Conditions: those written at each theorem. -/
import Derived.Test.YtpfhjdmgkckjfaaGreatDoorFRwsC
import Derived.Test.YtpfhjdmgkckjfaaGreatDoorFChkC
import Derived.Test.YtpfhjdmgkckjfaaGreatDoorFWlkA
import Derived.Test.YtpfhjdmgkckjfaaGreatDoorFThrC
import Derived.Test.YtpfhjdmgkckjfaaGreatDoorFDrawO
import Derived.Test.YtpfhjdmgkckjfaaGreatDoorFSame4
import Derived.Test.YtpfhjdmgkckjfaaGreatDoorChecked
import Derived.Test.YtpfhjdmgkckjfaaGreatDoorRows
import Derived.JoinedOf
import Derived.KernelRfl
namespace Go.Proofs.YtpfhjdmgkckjfaaGreatDoor
set_option linter.unusedVariables false
set_option linter.unusedSimpArgs false
set_option maxRecDepth 1000000
open Go.RowKit
open Um Tm Cm

end Go.Proofs.YtpfhjdmgkckjfaaGreatDoor

namespace Go.Proofs.YtpfhjdmgkckjfaaGreatDoor
set_option linter.unusedVariables false
set_option linter.unusedSimpArgs false
set_option maxRecDepth 1000000
open Go.RowKit
open Um Tm Cm

theorem long5_any (a b c : Int) (ao : Option Addr) (cap : Nat) (L : List Q) (d : Bool) (w : World) (h : (200 < L.length ∧ d = true) ∨ (L.length ≤ 200 ∧ d = false)) : Calls Tryz.prog 11 #[.agg #[.int .i64 a, .int .i64 b, .int .i64 c, .slice ao L.length cap]] w fun e w' => e = .returned (.bool d) ∧ Below w.heap.size w w' := by
  rcases h with ⟨h, rfl⟩ | ⟨h, rfl⟩
  · have h2 : (L.length : Int) > 200 := by omega
    go_enter Tryz.func11, Tryz.ntmps11
    go_wp2
    go_ret
    exact ⟨rfl, ba1⟩
  · have h2 : ¬ (L.length : Int) > 200 := by omega
    go_enter Tryz.func11, Tryz.ntmps11
    go_wp2
    go_ret
    exact ⟨rfl, ba1⟩
theorem lies_of5 {w : World} {ao : Option Addr} {L : List Q} (h : LiesO w ao L) (hp : 0 < L.length) : ∃ b f, ao = some ⟨b, f, none⟩ ∧ Lies w b f L := by
  rcases h with h | h
  · rw [h] at hp; simp at hp
  · exact h
end Go.Proofs.YtpfhjdmgkckjfaaGreatDoor

namespace Go.Proofs.YtpfhjdmgkckjfaaGreatDoor
set_option linter.unusedVariables false
set_option linter.unusedSimpArgs false
set_option maxRecDepth 1000000
open Go.RowKit
open Cm Tm

theorem sz221 : Sz 2 2 1 := ⟨by omega, by omega, by omega, by omega, by omega, by omega, by omega⟩
theorem thr221 : thr 2 2 1 0 = [0, 1, 6] := by decide +kernel
theorem nxt_ex : nxt 48271 = 182605794 := by decide
theorem three_cells {w : World} {b : Nat} {x y z : Int} (h0 : w.cell? ⟨b, 0, none⟩ = some (.int .i64 x)) (h1 : w.cell? ⟨b, 1, none⟩ = some (.int .i64 y)) (h2 : w.cell? ⟨b, 2, none⟩ = some (.int .i64 z)) : LiesI w b 0 [x, y, z] := fun i v hv => by
  match i, hv with
  | 0, hv => simp at hv; subst hv; simpa using h0
  | 1, hv => simp at hv; subst hv; simpa using h1
  | 2, hv => simp at hv; subst hv; simpa using h2
  | n + 3, hv => simp at hv
set_option maxHeartbeats 1600000 in
theorem sane5_any (w : World) : Calls Tryz.prog 12 #[] w fun e w' => e = .returned (.bool true) ∧ Below w.heap.size w w' := by
  have c1 := fun W : World => step_any 48271 182605794 0 W (.inl ⟨⟨by omega, by omega⟩, nxt_ex.symm, rfl⟩)
  have c2 : ∀ W : World, Calls Tryz.prog 38 #[.agg #[.int .i64 2, .int .i64 2, .int .i64 1], .int .i64 0] W fun e w' => ∃ g k : Nat, e = .returned (.tuple #[.slice (some ⟨g, 0, none⟩) 3 k, .int .i64 0]) ∧ LiesI w' g 0 [0, 1, 6] ∧ W.heap.size ≤ g ∧ Below W.heap.size W w' := fun W => by
    have := through_ok 2 2 1 0 W sz221 (by omega) (by omega)
    rw [thr221] at this
    exact this
  have c3 : ∀ (g k b n : Nat) (W : World), LiesI W g 0 [0, 1, 6] → LiesI W b 0 [0, 1, 6] → Calls Tryz.prog 39 #[.slice (some ⟨g, 0, none⟩) 3 k, .slice (some ⟨b, 0, none⟩) 3 n] W fun e w' => e = .returned (.bool true) ∧ Below W.heap.size W w' := fun g k b n W h1 h2 =>
    sameInts4_any (some ⟨g, 0, none⟩) (some ⟨b, 0, none⟩) k n [0, 1, 6] [0, 1, 6] W (.inr ⟨g, 0, rfl, h1⟩) (.inr ⟨b, 0, rfl, h2⟩) (by decide)
  go_enter Tryz.func12, Tryz.ntmps12
  go_wp2_with (first | ((with_reducible refine (c1 _).mono ?_); rintro e w1 ⟨rfl, rfl⟩) | ((with_reducible refine (c2 _).mono ?_); rintro e w2 ⟨g, k, rfl, hl, hg, hw2⟩; have HL := Lib.hid hl; clear hl) | ((with_reducible refine (c3 _ _ _ _ _ (HL.out.later ((Below.refl _ _).alloc (Nat.le_refl _) _)) (three_cells (by simp [go_sem]) (by simp [go_sem]) (by simp [go_sem]))).mono ?_); rintro e w3 ⟨rfl, hw3⟩))
  go_ret
  exact ⟨rfl, by repeat (first | (with_reducible exact Below.refl _ _) | (with_reducible refine Below.setCell ?_ ?_ _) | (with_reducible refine Below.drew ?_) | (with_reducible refine Below.alloc ?_ ?_ _) | (with_reducible refine Below.trans ?_ (Below.mono hw3 ?_)) | (with_reducible refine Below.trans ?_ (Below.mono hw2 ?_)) | (with_reducible exact hw3.size) | (with_reducible exact hw2.size) | omega | (simp <;> omega) | (simp <;> (have s := hw3.size; omega)) | (simp <;> (have s := hw2.size; omega)) | (have s0 := hw3.size; (try simp at s0); have s1 := hw2.size; (try simp at s1); (try simp); omega))⟩
end Go.Proofs.YtpfhjdmgkckjfaaGreatDoor

namespace Go.Proofs.YtpfhjdmgkckjfaaGreatDoor
set_option linter.unusedVariables false
set_option linter.unusedSimpArgs false
set_option maxRecDepth 1000000
open Go Go.Proofs

theorem band {a b : Bool} (ha : a = true) (hb : b = true) : (a && b) = true := by rw [ha, hb]; rfl
theorem jf1 : (laidOutB Tryz.prog) = true := by kernel_rfl
theorem jf2 : (mapsRowed Tryz.prog) = true := by kernel_rfl
theorem jf6 : ((Tryz.prog.stops == [])) = true := by kernel_rfl
theorem jf8 : ((Tryz.prog.stopKnobs == [])) = true := by kernel_rfl
theorem jf24 : (Tryz.prog.stopsHeard) = true := by kernel_rfl
theorem jf25 : (Tryz.prog.mayEnter) = true := by kernel_rfl
theorem jf26 : (false == Tryz.prog.liftsFinal) = true := by kernel_rfl
theorem jf27 : (Tryz.prog.make == some Make.cut) = true := by kernel_rfl
end Go.Proofs.YtpfhjdmgkckjfaaGreatDoor
