/- Plain mathematics of the plaquettes of a link: the four numbers that the directions give, sorted, each once, are the plaquettes that have the link, for all sizes; no Go.
Conditions: sizes that are allowed, a link of the torus. -/
import Derived.Test.YtpfhjdmgkckjfaaGreatDoorHMathA
import Derived.Lib.SlicesCompact
import Derived.Test.YtpfhjdmgkckjfaaGreatDoorHQuatB
import Derived.ProofKit
import Derived.Lib.SmallJoins
import Derived.Carry
import Derived.OpenShut
import Derived.ChangeKeysEq
import Derived.Test.YtpfhjdmgkckjfaaGreatDoorHQuatA
import Derived.Test.YtpfhjdmgkckjfaaGreatDoorHRegA
import Derived.Test.YtpfhjdmgkckjfaaGreatDoorChecked
import Derived.Test.YtpfhjdmgkckjfaaGreatDoorRows
import Derived.JoinedOf
import Derived.KernelRfl
set_option autoImplicit false
namespace Cm
set_option linter.unusedVariables false
set_option linter.unusedSimpArgs false
open Tm
/-- the two plaquettes that one other direction gives -/
def two (a b c l o : Int) : List Int := [3 * (l / 3) + (l % 3 + o - 1), 3 * nx a b c (l / 3) (-o - 1) + (l % 3 + o - 1)]
def four (a b c l : Int) : List Int := if l % 3 = 0 then two a b c l 1 ++ two a b c l 2 else if l % 3 = 1 then two a b c l 0 ++ two a b c l 2 else two a b c l 0 ++ two a b c l 1
/-- the links of a plaquette -/
def lks (a b c p : Int) : List Int :=
  let s := p / 3
  let A : Int := if p % 3 = 2 then 1 else 0
  let B : Int := if p % 3 = 0 then 1 else 2
  [3 * s + A, 3 * nx a b c s (A + 1) + B, 3 * nx a b c s (B + 1) + A, 3 * s + B]
def has (a b c l p : Int) : Bool := (lks a b c p).contains l
/-- the plaquettes of a link -/
def thr (a b c l : Int) : List Int := ((List.range (3 * (a * b * c)).toNat).map Int.ofNat).filter (has a b c l)
theorem thr_all : ∀ a : Fin 4, ∀ b : Fin 4, ∀ c : Fin 4, (a.val+1) * (b.val+1) * (c.val+1) ≤ 16 → ∀ l : Fin (3 * ((a.val+1) * (b.val+1) * (c.val+1))), Go.Lib.compact (isort (four (a.val+1 : Nat) (b.val+1 : Nat) (c.val+1 : Nat) (l.val : Nat))) = thr (a.val+1 : Nat) (b.val+1 : Nat) (c.val+1 : Nat) (l.val : Nat) := by decide +kernel
theorem thr_eq {a b c l : Int} (h : Sz a b c) (h0 : 0 ≤ l) (h1 : l < 3 * (a * b * c)) : Go.Lib.compact (isort (four a b c l)) = thr a b c l := by
  obtain ⟨a1, a4, b1, b4, c1, c4, hp⟩ := h
  obtain ⟨x, rfl⟩ := Int.eq_ofNat_of_zero_le (show 0 ≤ a - 1 by omega) |>.imp fun x hx => (by omega : a = ((x + 1 : Nat) : Int))
  obtain ⟨y, rfl⟩ := Int.eq_ofNat_of_zero_le (show 0 ≤ b - 1 by omega) |>.imp fun x hx => (by omega : b = ((x + 1 : Nat) : Int))
  obtain ⟨z, rfl⟩ := Int.eq_ofNat_of_zero_le (show 0 ≤ c - 1 by omega) |>.imp fun x hx => (by omega : c = ((x + 1 : Nat) : Int))
  obtain ⟨k, rfl⟩ := Int.eq_ofNat_of_zero_le h0
  have e : (3 : Int) * (((x + 1 : Nat) : Int) * ((y + 1 : Nat) : Int) * ((z + 1 : Nat) : Int)) = ((3 * ((x + 1) * (y + 1) * (z + 1)) : Nat) : Int) := by simp
  rw [e] at h1
  have e2 : (((x + 1 : Nat) : Int) * ((y + 1 : Nat) : Int) * ((z + 1 : Nat) : Int)) = (((x + 1) * (y + 1) * (z + 1) : Nat) : Int) := by simp
  rw [e2] at hp
  exact thr_all ⟨x, by omega⟩ ⟨y, by omega⟩ ⟨z, by omega⟩ (by exact_mod_cast hp) ⟨k, by exact_mod_cast h1⟩
end Cm

namespace Go.Proofs.YtpfhjdmgkckjfaaGreatDoor
set_option linter.unusedVariables false
set_option linter.unusedSimpArgs false
set_option maxRecDepth 1000000
open Go.RowKit
open Um

theorem own : ownKnob Tryz.prog.godebug = none := by kernel_rfl
theorem laidOut : laidOutB Tryz.prog = true := by kernel_rfl
theorem cells3 : Tryz.prog.cellsOf 3 = 1 := by kernel_rfl
theorem cells23 : Tryz.prog.cellsOf 73 = 5 := by kernel_rfl
section
open Go.ChangeShapes Go.WideShapes Go.ChangeAt Go.RowKit Go.Joins Go.Deep
open Go.ChangeShapes Go.Deep Go.Joins in
theorem one_of {fs : Array Field} (_ : Tryz.prog.underlying 73 = some (.struct fs)) (h : oneCellFields Tryz.prog fs = true) : oneCellFields Tryz.prog fs = true := h
variable {H : Type} {enc : TypeId × Value → H} {w : World} {base : Nat} {spare : Nat → Bool} {held : Bool}
end
end Go.Proofs.YtpfhjdmgkckjfaaGreatDoor

namespace Go.Proofs.YtpfhjdmgkckjfaaGreatDoor
set_option linter.unusedVariables false
set_option linter.unusedSimpArgs false
open Go.ChangeShapes Go.WideShapes Go.ChangeAt Go.RowKit
open Um

end Go.Proofs.YtpfhjdmgkckjfaaGreatDoor

namespace Go.Proofs.YtpfhjdmgkckjfaaGreatDoor
set_option linter.unusedVariables false
set_option linter.unusedSimpArgs false
set_option maxRecDepth 1000000
open Go.ChangeShapes Go.WideShapes Go.ChangeAt Go.RowKit
open Um
section
variable {H : Type} {enc : TypeId × Value → H} {w : World} {base : Nat} {spare : Nat → Bool} {held : Bool}
end
end Go.Proofs.YtpfhjdmgkckjfaaGreatDoor

namespace Go.Proofs.YtpfhjdmgkckjfaaGreatDoor
set_option linter.unusedVariables false
set_option linter.unusedSimpArgs false
set_option maxRecDepth 1000000
open Go.RowKit
open Um

theorem parts_apart {x y : Q} (he : ¬ x = y) : ¬ x.a = y.a ∨ (x.a = y.a ∧ ¬ x.b = y.b) ∨ (x.a = y.a ∧ x.b = y.b ∧ ¬ x.c = y.c) ∨ (x.a = y.a ∧ x.b = y.b ∧ x.c = y.c ∧ ¬ x.d = y.d) ∨ (x.a = y.a ∧ x.b = y.b ∧ x.c = y.c ∧ x.d = y.d ∧ ¬ x.n = y.n) := by
  by_cases h1 : x.a = y.a
  · by_cases h2 : x.b = y.b
    · by_cases h3 : x.c = y.c
      · by_cases h4 : x.d = y.d
        · refine .inr (.inr (.inr (.inr ⟨h1, h2, h3, h4, fun h5 => he ?_⟩)))
          cases x
          cases y
          simp at h1 h2 h3 h4 h5
          simp [h1, h2, h3, h4, h5]
        · exact .inr (.inr (.inr (.inl ⟨h1, h2, h3, h4⟩)))
      · exact .inr (.inr (.inl ⟨h1, h2, h3⟩))
    · exact .inr (.inl ⟨h1, h2⟩)
  · exact .inl h1

theorem eqU (x y : Q) (W : World) : Sem.run Tryz.prog (Op.equalIn 10000 73 (.agg #[.int .i64 x.a, .int .i64 x.b, .int .i64 x.c, .int .i64 x.d, .int .i64 x.n]) (.agg #[.int .i64 y.a, .int .i64 y.b, .int .i64 y.c, .int .i64 y.d, .int .i64 y.n])) W = .ok (decide (x = y)) W := by
  by_cases h : x = y
  · subst h
    simp [go_sem]
  · have hd : decide (x = y) = false := by simpa using h
    rw [hd]
    rcases parts_apart h with h | h | h | h | h
    all_goals simp [go_sem, h]

end Go.Proofs.YtpfhjdmgkckjfaaGreatDoor

namespace Go.Proofs.YtpfhjdmgkckjfaaGreatDoor
set_option linter.unusedVariables false
set_option linter.unusedSimpArgs false
open Go.RowKit
open Um

set_option maxHeartbeats 800000 in
theorem trace_ok (x : Q) (w : World) (h : V x) : Calls Tryz.prog 130 #[.agg #[.int .i64 x.a, .int .i64 x.b, .int .i64 x.c, .int .i64 x.d, .int .i64 x.n]] w fun e w' => e = .returned (.tuple #[.agg #[.int .i64 (tr x).1, .int .i64 (tr x).2], .int .i64 0]) ∧ Below w.heap.size w w' := by
  obtain ⟨⟨a1, a2⟩, b, c, d, n1, n2⟩ := V.in h
  have c1 := fun W : World => validate_ok x W h
  have c2 := fun W : World => ratio_any (2 * x.a) x.n W (by omega) (by omega)
  clear h b c d
  go_enter Tryz.func130, Tryz.ntmps130
  go_wp2_with (first | ((with_reducible refine (c1 _).mono ?_); rintro e w1 ⟨rfl, hw1⟩; have hc := Tail.cells hw1; have zw10 := Nat.lt_of_lt_of_le (n := w.heap.size) (by simp <;> omega) hw1.size; have zw11 := Nat.lt_of_lt_of_le (n := w.heap.size + 1) (by simp <;> omega) hw1.size) | ((with_reducible refine (c2 _).mono ?_); rintro e w2 ⟨rfl, hw2⟩; have hc2 := Tail.cells hw2; have z2 := Nat.lt_of_lt_of_le zw11 hw2.size))
  refine bodyPost_ret (v := .tuple #[.agg #[.int .i64 (tr x).1, .int .i64 (tr x).2], .int .i64 0]) ?_ rfl ⟨rfl, ?_⟩
  · simp [results, Tryz.results130, go_sem, hc, hc2, zw10, zw11, z2, tr]
  · repeat (first | (with_reducible exact Below.refl _ _) | (with_reducible refine Below.setCell ?_ ?_ _) | (with_reducible refine Below.drew ?_) | (with_reducible refine Below.alloc ?_ ?_ _) | (with_reducible refine Below.trans ?_ (Below.mono hw2 ?_)) | (with_reducible refine Below.trans ?_ (Below.mono hw1 ?_)) | (with_reducible exact hw2.size) | (with_reducible exact hw1.size) | omega | (simp <;> omega) | (simp <;> (have s := hw2.size; omega)) | (simp <;> (have s := hw1.size; omega)) | (have s0 := hw2.size; (try simp at s0); have s1 := hw1.size; (try simp at s1); (try simp); omega))

end Go.Proofs.YtpfhjdmgkckjfaaGreatDoor

namespace Go.Proofs.YtpfhjdmgkckjfaaGreatDoor
set_option linter.unusedVariables false
set_option linter.unusedSimpArgs false
set_option maxRecDepth 1000000
open Go Go.Proofs

theorem band {a b : Bool} (ha : a = true) (hb : b = true) : (a && b) = true := by rw [ha, hb]; rfl
theorem jf1 : (laidOutB Tryz.prog) = true := by kernel_rfl
theorem jf2 : (mapsRowed Tryz.prog) = true := by kernel_rfl
theorem jf6 : ((Tryz.prog.stops == [])) = true := by kernel_rfl
theorem jf8 : ((Tryz.prog.stopKnobs == [])) = true := by kernel_rfl
theorem jf24 : (Tryz.prog.stopsHeard) = true := by kernel_rfl
theorem jf25 : (Tryz.prog.mayEnter) = true := by kernel_rfl
theorem jf26 : (false == Tryz.prog.liftsFinal) = true := by kernel_rfl
theorem jf27 : (Tryz.prog.make == some Make.cut) = true := by kernel_rfl
end Go.Proofs.YtpfhjdmgkckjfaaGreatDoor
