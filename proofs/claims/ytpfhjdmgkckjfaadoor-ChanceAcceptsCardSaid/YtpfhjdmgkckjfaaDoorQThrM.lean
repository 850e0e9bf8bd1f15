/- Plain mathematics of the plaquettes of a link: the four numbers that the directions give, sorted, each once, are the plaquettes that have the link, for all sizes; no Go.
Conditions: sizes that are allowed, a link of the torus. -/
import Derived.Test.YtpfhjdmgkckjfaaDoorQMathA
import Derived.Lib.SlicesCompact
set_option autoImplicit false
namespace Cm
set_option linter.unusedVariables false
set_option linter.unusedSimpArgs false
open Tm
/-- the two plaquettes that one other direction gives -/
def two (a b c l o : Int) : List Int := [3 * (l / 3) + (l % 3 + o - 1), 3 * nx a b c (l / 3) (-o - 1) + (l % 3 + o - 1)]
def four (a b c l : Int) : List Int := if l % 3 = 0 then two a b c l 1 ++ two a b c l 2 else if l % 3 = 1 then two a b c l 0 ++ two a b c l 2 else two a b c l 0 ++ two a b c l 1
/-- the links of a plaquette -/
def lks (a b c p : Int) : List Int :=
  let s := p / 3
  let A : Int := if p % 3 = 2 then 1 else 0
  let B : Int := if p % 3 = 0 then 1 else 2
  [3 * s + A, 3 * nx a b c s (A + 1) + B, 3 * nx a b c s (B + 1) + A, 3 * s + B]
def has (a b c l p : Int) : Bool := (lks a b c p).contains l
/-- the plaquettes of a link -/
def thr (a b c l : Int) : List Int := ((List.range (3 * (a * b * c)).toNat).map Int.ofNat).filter (has a b c l)
theorem thr_all : ∀ a : Fin 4, ∀ b : Fin 4, ∀ c : Fin 4, (a.val+1) * (b.val+1) * (c.val+1) ≤ 16 → ∀ l : Fin (3 * ((a.val+1) * (b.val+1) * (c.val+1))), Go.Lib.compact (isort (four (a.val+1 : Nat) (b.val+1 : Nat) (c.val+1 : Nat) (l.val : Nat))) = thr (a.val+1 : Nat) (b.val+1 : Nat) (c.val+1 : Nat) (l.val : Nat) := by decide +kernel
theorem thr_eq {a b c l : Int} (h : Sz a b c) (h0 : 0 ≤ l) (h1 : l < 3 * (a * b * c)) : Go.Lib.compact (isort (four a b c l)) = thr a b c l := by
  obtain ⟨a1, a4, b1, b4, c1, c4, hp⟩ := h
  obtain ⟨x, rfl⟩ := Int.eq_ofNat_of_zero_le (show 0 ≤ a - 1 by omega) |>.imp fun x hx => (by omega : a = ((x + 1 : Nat) : Int))
  obtain ⟨y, rfl⟩ := Int.eq_ofNat_of_zero_le (show 0 ≤ b - 1 by omega) |>.imp fun x hx => (by omega : b = ((x + 1 : Nat) : Int))
  obtain ⟨z, rfl⟩ := Int.eq_ofNat_of_zero_le (show 0 ≤ c - 1 by omega) |>.imp fun x hx => (by omega : c = ((x + 1 : Nat) : Int))
  obtain ⟨k, rfl⟩ := Int.eq_ofNat_of_zero_le h0
  have e : (3 : Int) * (((x + 1 : Nat) : Int) * ((y + 1 : Nat) : Int) * ((z + 1 : Nat) : Int)) = ((3 * ((x + 1) * (y + 1) * (z + 1)) : Nat) : Int) := by simp
  rw [e] at h1
  have e2 : (((x + 1 : Nat) : Int) * ((y + 1 : Nat) : Int) * ((z + 1 : Nat) : Int)) = (((x + 1) * (y + 1) * (z + 1) : Nat) : Int) := by simp
  rw [e2] at hp
  exact thr_all ⟨x, by omega⟩ ⟨y, by omega⟩ ⟨z, by omega⟩ (by exact_mod_cast hp) ⟨k, by exact_mod_cast h1⟩
end Cm
