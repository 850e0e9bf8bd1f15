/- A link of a field, as the program and the document's answers read it.
Conditions: the list lies in memory as it is written at each theorem. -/
import Derived.Test.YtpfhjdmgkckjfaaDoorQLBox
import Derived.Test.YtpfhjdmgkckjfaaDoorQMathA
import Derived.Test.YtpfhjdmgkckjfaaDoorQFieldC
import Derived.Test.YtpfhjdmgkckjfaaDoorQWlkA
import Derived.Test.YtpfhjdmgkckjfaaDoorQDist
import Derived.Test.YtpfhjdmgkckjfaaDoorQThrC
import Derived.Test.YtpfhjdmgkckjfaaDoorQSame4
namespace Go.Proofs.YtpfhjdmgkckjfaaDoor
set_option linter.unusedVariables false
set_option linter.unusedSimpArgs false
set_option maxRecDepth 1000000
open Go.RowKit
open Um Tm

/-- the error of a field, a site and a direction -/
def lnR (a b c : Int) (L : List Q) (s d r : Int) : Prop := (fldR a b c L r ∧ r ≠ 0) ∨ (fldR a b c L 0 ∧ ¬ (0 ≤ s ∧ s < a * b * c) ∧ r = 4) ∨ (fldR a b c L 0 ∧ 0 ≤ s ∧ s < a * b * c ∧ ¬ (0 ≤ d ∧ d ≤ 2) ∧ r = 1) ∨ (fldR a b c L 0 ∧ 0 ≤ s ∧ s < a * b * c ∧ 0 ≤ d ∧ d ≤ 2 ∧ r = 0)
end Go.Proofs.YtpfhjdmgkckjfaaDoor

namespace Go.Proofs.YtpfhjdmgkckjfaaDoor
set_option linter.unusedVariables false
set_option linter.unusedSimpArgs false
set_option maxRecDepth 1000000
open Go.RowKit
open Um Tm

/-- the error of a field and a list of units, one at each site -/
def gaR (a b c : Int) (L G : List Q) (r : Int) : Prop := (fldR a b c L r ∧ r ≠ 0) ∨ (fldR a b c L 0 ∧ 3 * G.length ≠ L.length ∧ r = 1) ∨ (fldR a b c L 0 ∧ 3 * G.length = L.length ∧ LinksR G r)
end Go.Proofs.YtpfhjdmgkckjfaaDoor

namespace Go.Proofs.YtpfhjdmgkckjfaaDoor
set_option linter.unusedVariables false
set_option linter.unusedSimpArgs false
set_option maxRecDepth 1000000
open Go.RowKit
open Cm

def stepR (s r e : Int) : Prop := (IsSeed s ∧ r = nxt s ∧ e = 0) ∨ (¬ IsSeed s ∧ r = 0 ∧ e = 1)
set_option maxHeartbeats 400000 in
theorem step_any (s r er : Int) (w : World) (h : stepR s r er) : Calls Tryd.prog 16 #[.int .i64 s] w fun e w' => e = .returned (.tuple #[.int .i64 r, .int .i64 er]) ∧ w = w' := by
  rcases h with ⟨h, rfl, rfl⟩ | ⟨h, rfl, rfl⟩
  · have c1 := fun W : World => checkSeed_any s 0 W (.inl ⟨h, rfl⟩)
    have c2 := fun W : World => chNext_any s W h
    clear h
    go_enter Tryd.func16, Tryd.ntmps16
    go_wp2_with (first | ((with_reducible refine (c1 _).mono ?_); rintro e w1 ⟨rfl, rfl⟩) | ((with_reducible refine (c2 _).mono ?_); rintro e w1 ⟨rfl, rfl⟩))
    go_ret2
    exact ⟨rfl, rfl⟩
  · have c1 := fun W : World => checkSeed_any s 1 W (.inr ⟨h, rfl⟩)
    clear h
    go_enter Tryd.func16, Tryd.ntmps16
    go_wp2_with ((with_reducible refine (c1 _).mono ?_); rintro e w1 ⟨rfl, rfl⟩)
    go_ret2
    exact ⟨rfl, rfl⟩
def drawR (s n d t e : Int) : Prop := (IsSeed s ∧ (1 ≤ n ∧ n ≤ 1099511627776) ∧ d = drw s n ∧ t = adv s ∧ e = 0) ∨ (IsSeed s ∧ ¬ (1 ≤ n ∧ n ≤ 1099511627776) ∧ d = 0 ∧ t = 0 ∧ e = 1) ∨ (¬ IsSeed s ∧ d = 0 ∧ t = 0 ∧ e = 1)
end Go.Proofs.YtpfhjdmgkckjfaaDoor

namespace Go.Proofs.YtpfhjdmgkckjfaaDoor
set_option linter.unusedVariables false
set_option linter.unusedSimpArgs false
set_option maxRecDepth 1000000
open Go.RowKit
open Cm Tm

theorem sz221 : Sz 2 2 1 := ⟨by omega, by omega, by omega, by omega, by omega, by omega, by omega⟩
theorem thr221 : thr 2 2 1 0 = [0, 1, 6] := by decide +kernel
theorem nxt_ex : nxt 48271 = 182605794 := by decide
theorem three_cells {w : World} {b : Nat} {x y z : Int} (h0 : w.cell? ⟨b, 0, none⟩ = some (.int .i64 x)) (h1 : w.cell? ⟨b, 1, none⟩ = some (.int .i64 y)) (h2 : w.cell? ⟨b, 2, none⟩ = some (.int .i64 z)) : LiesI w b 0 [x, y, z] := fun i v hv => by
  match i, hv with
  | 0, hv => simp at hv; subst hv; simpa using h0
  | 1, hv => simp at hv; subst hv; simpa using h1
  | 2, hv => simp at hv; subst hv; simpa using h2
  | n + 3, hv => simp at hv
set_option maxHeartbeats 1600000 in
theorem sane5_any (w : World) : Calls Tryd.prog 7 #[] w fun e w' => e = .returned (.bool true) ∧ Below w.heap.size w w' := by
  have c1 := fun W : World => step_any 48271 182605794 0 W (.inl ⟨⟨by omega, by omega⟩, nxt_ex.symm, rfl⟩)
  have c2 : ∀ W : World, Calls Tryd.prog 17 #[.agg #[.int .i64 2, .int .i64 2, .int .i64 1], .int .i64 0] W fun e w' => ∃ g k : Nat, e = .returned (.tuple #[.slice (some ⟨g, 0, none⟩) 3 k, .int .i64 0]) ∧ LiesI w' g 0 [0, 1, 6] ∧ W.heap.size ≤ g ∧ Below W.heap.size W w' := fun W => by
    have := through_ok 2 2 1 0 W sz221 (by omega) (by omega)
    rw [thr221] at this
    exact this
  have c3 : ∀ (g k b n : Nat) (W : World), LiesI W g 0 [0, 1, 6] → LiesI W b 0 [0, 1, 6] → Calls Tryd.prog 18 #[.slice (some ⟨g, 0, none⟩) 3 k, .slice (some ⟨b, 0, none⟩) 3 n] W fun e w' => e = .returned (.bool true) ∧ Below W.heap.size W w' := fun g k b n W h1 h2 =>
    sameInts4_any (some ⟨g, 0, none⟩) (some ⟨b, 0, none⟩) k n [0, 1, 6] [0, 1, 6] W (.inr ⟨g, 0, rfl, h1⟩) (.inr ⟨b, 0, rfl, h2⟩) (by decide)
  go_enter Tryd.func7, Tryd.ntmps7
  go_wp2_with (first | ((with_reducible refine (c1 _).mono ?_); rintro e w1 ⟨rfl, rfl⟩) | ((with_reducible refine (c2 _).mono ?_); rintro e w2 ⟨g, k, rfl, hl, hg, hw2⟩; have HL := Lib.hid hl; clear hl) | ((with_reducible refine (c3 _ _ _ _ _ (HL.out.later ((Below.refl _ _).alloc (Nat.le_refl _) _)) (three_cells (by simp [go_sem]) (by simp [go_sem]) (by simp [go_sem]))).mono ?_); rintro e w3 ⟨rfl, hw3⟩))
  go_ret
  exact ⟨rfl, by repeat (first | (with_reducible exact Below.refl _ _) | (with_reducible refine Below.setCell ?_ ?_ _) | (with_reducible refine Below.drew ?_) | (with_reducible refine Below.alloc ?_ ?_ _) | (with_reducible refine Below.trans ?_ (Below.mono hw3 ?_)) | (with_reducible refine Below.trans ?_ (Below.mono hw2 ?_)) | (with_reducible exact hw3.size) | (with_reducible exact hw2.size) | omega | (simp <;> omega) | (simp <;> (have s := hw3.size; omega)) | (simp <;> (have s := hw2.size; omega)) | (have s0 := hw3.size; (try simp at s0); have s1 := hw2.size; (try simp at s1); (try simp); omega))⟩
end Go.Proofs.YtpfhjdmgkckjfaaDoor
