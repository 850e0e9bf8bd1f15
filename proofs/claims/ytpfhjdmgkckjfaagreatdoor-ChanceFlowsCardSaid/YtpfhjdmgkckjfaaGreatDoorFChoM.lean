/- What the statements of the second layer ask of the program first, and how places are compared and arguments read.
Conditions: none. -/
import Derived.Test.YtpfhjdmgkckjfaaGreatDoorFTorA
import Derived.Test.YtpfhjdmgkckjfaaGreatDoorFThrM
import Derived.ChangeKeysEq
import Derived.Test.YtpfhjdmgkckjfaaGreatDoorFFieldC
import Derived.Test.YtpfhjdmgkckjfaaGreatDoorFProd
import Derived.Test.YtpfhjdmgkckjfaaGreatDoorFMid
import Derived.Test.YtpfhjdmgkckjfaaGreatDoorFCrM
namespace Go.Proofs.YtpfhjdmgkckjfaaGreatDoor
set_option linter.unusedVariables false
set_option linter.unusedSimpArgs false
set_option maxRecDepth 1000000
open Go.ChangeShapes Go.WideShapes Go.ChangeAt Go.RowKit
open Tm

section
open Go.ChangeShapes Go.WideShapes Go.ChangeAt Go.RowKit Go.Joins Go.Deep
variable {H : Type} {enc : TypeId × Value → H} {w : World} {base : Nat} {spare : Nat → Bool} {held : Bool}
end
end Go.Proofs.YtpfhjdmgkckjfaaGreatDoor

namespace Go.Proofs.YtpfhjdmgkckjfaaGreatDoor
set_option linter.unusedVariables false
set_option linter.unusedSimpArgs false
set_option maxRecDepth 1000000
open Go.RowKit
open Um

theorem parts_apart {x y : Q} (he : ¬ x = y) : ¬ x.a = y.a ∨ (x.a = y.a ∧ ¬ x.b = y.b) ∨ (x.a = y.a ∧ x.b = y.b ∧ ¬ x.c = y.c) ∨ (x.a = y.a ∧ x.b = y.b ∧ x.c = y.c ∧ ¬ x.d = y.d) ∨ (x.a = y.a ∧ x.b = y.b ∧ x.c = y.c ∧ x.d = y.d ∧ ¬ x.n = y.n) := by
  by_cases h1 : x.a = y.a
  · by_cases h2 : x.b = y.b
    · by_cases h3 : x.c = y.c
      · by_cases h4 : x.d = y.d
        · refine .inr (.inr (.inr (.inr ⟨h1, h2, h3, h4, fun h5 => he ?_⟩)))
          cases x
          cases y
          simp at h1 h2 h3 h4 h5
          simp [h1, h2, h3, h4, h5]
        · exact .inr (.inr (.inr (.inl ⟨h1, h2, h3, h4⟩)))
      · exact .inr (.inr (.inl ⟨h1, h2, h3⟩))
    · exact .inr (.inl ⟨h1, h2⟩)
  · exact .inl h1

theorem eqU (x y : Q) (W : World) : Sem.run Tryz.prog (Op.equalIn 10000 73 (.agg #[.int .i64 x.a, .int .i64 x.b, .int .i64 x.c, .int .i64 x.d, .int .i64 x.n]) (.agg #[.int .i64 y.a, .int .i64 y.b, .int .i64 y.c, .int .i64 y.d, .int .i64 y.n])) W = .ok (decide (x = y)) W := by
  by_cases h : x = y
  · subst h
    simp [go_sem]
  · have hd : decide (x = y) = false := by simpa using h
    rw [hd]
    rcases parts_apart h with h | h | h | h | h
    all_goals simp [go_sem, h]

end Go.Proofs.YtpfhjdmgkckjfaaGreatDoor

namespace Go.Proofs.YtpfhjdmgkckjfaaGreatDoor
set_option linter.unusedVariables false
set_option linter.unusedSimpArgs false
set_option maxRecDepth 1000000
open Go.RowKit
open Um Tm

end Go.Proofs.YtpfhjdmgkckjfaaGreatDoor

namespace Go.Proofs.YtpfhjdmgkckjfaaGreatDoor
set_option linter.unusedVariables false
set_option linter.unusedSimpArgs false
open Go.RowKit
open Um

end Go.Proofs.YtpfhjdmgkckjfaaGreatDoor

set_option autoImplicit false
namespace Cm
set_option linter.unusedVariables false
set_option linter.unusedSimpArgs false
open Tm Um
/-- the sum of the first weights -/
def psum (l : List Int) (k : Nat) : Int := (l.take k).sum
theorem psum_zero (l : List Int) : psum l 0 = 0 := by simp [psum]
theorem psum_succ {l : List Int} {k : Nat} {x : Int} (h : l[k]? = some x) : psum l (k + 1) = psum l k + x := by
  obtain ⟨hk, rfl⟩ := List.getElem?_eq_some_iff.1 h
  unfold psum
  rw [List.take_succ_eq_append_getElem hk, List.sum_append]
  simp
/-- a draw leads to a value -/
def Ch (l : List Int) (d : Int) (k : Nat) : Prop := k < l.length ∧ psum l k ≤ d ∧ d < psum l (k + 1)
theorem psum_mono {l : List Int} (hp : ∀ x ∈ l, 1 ≤ x) (i : Nat) : ∀ j, i ≤ j → j ≤ l.length → psum l i ≤ psum l j
  | 0, h, _ => by
    have : i = 0 := by omega
    subst this
    exact Int.le_refl _
  | j + 1, h, hj => by
    by_cases he : i = j + 1
    · subst he
      exact Int.le_refl _
    · have hx : l[j]? = some l[j] := List.getElem?_eq_getElem (by omega)
      rw [psum_succ hx]
      have := psum_mono hp i j (by omega) (by omega)
      have := hp _ (List.mem_of_getElem? hx)
      omega
theorem psum_le {l : List Int} {B : Int} (hp : ∀ x ∈ l, x ≤ B) : ∀ j : Nat, j ≤ l.length → psum l j ≤ j * B
  | 0, _ => by rw [psum_zero]; omega
  | j + 1, hj => by
    have hx : l[j]? = some l[j] := List.getElem?_eq_getElem (by omega)
    rw [psum_succ hx]
    have := psum_le hp j (by omega)
    have := hp _ (List.mem_of_getElem? hx)
    have e : ((j + 1 : Nat) : Int) * B = j * B + B := by rw [Int.natCast_add, Int.add_mul]; simp
    omega
theorem psum_ge {l : List Int} (hp : ∀ x ∈ l, 1 ≤ x) (j : Nat) (hj : j ≤ l.length) : 0 ≤ psum l j := by
  have := psum_mono hp 0 j (by omega) hj
  rw [psum_zero] at this
  exact this
theorem small_inj : ∀ k : Nat, k < 24 → ∀ m : Nat, m < 24 → small k = small m → k = m := by decide +kernel
end Cm

namespace Go.Proofs.YtpfhjdmgkckjfaaGreatDoor
set_option linter.unusedVariables false
set_option linter.unusedSimpArgs false
set_option maxRecDepth 1000000
open Go.RowKit
open Cm

def stepR (s r e : Int) : Prop := (IsSeed s ∧ r = nxt s ∧ e = 0) ∨ (¬ IsSeed s ∧ r = 0 ∧ e = 1)
set_option maxHeartbeats 400000 in
theorem step_any (s r er : Int) (w : World) (h : stepR s r er) : Calls Tryz.prog 34 #[.int .i64 s] w fun e w' => e = .returned (.tuple #[.int .i64 r, .int .i64 er]) ∧ w = w' := by
  rcases h with ⟨h, rfl, rfl⟩ | ⟨h, rfl, rfl⟩
  · have c1 := fun W : World => checkSeed_any s 0 W (.inl ⟨h, rfl⟩)
    have c2 := fun W : World => chNext_any s W h
    clear h
    go_enter Tryz.func34, Tryz.ntmps34
    go_wp2_with (first | ((with_reducible refine (c1 _).mono ?_); rintro e w1 ⟨rfl, rfl⟩) | ((with_reducible refine (c2 _).mono ?_); rintro e w1 ⟨rfl, rfl⟩))
    go_ret2
    exact ⟨rfl, rfl⟩
  · have c1 := fun W : World => checkSeed_any s 1 W (.inr ⟨h, rfl⟩)
    clear h
    go_enter Tryz.func34, Tryz.ntmps34
    go_wp2_with ((with_reducible refine (c1 _).mono ?_); rintro e w1 ⟨rfl, rfl⟩)
    go_ret2
    exact ⟨rfl, rfl⟩
def drawR (s n d t e : Int) : Prop := (IsSeed s ∧ (1 ≤ n ∧ n ≤ 1099511627776) ∧ d = drw s n ∧ t = adv s ∧ e = 0) ∨ (IsSeed s ∧ ¬ (1 ≤ n ∧ n ≤ 1099511627776) ∧ d = 0 ∧ t = 0 ∧ e = 1) ∨ (¬ IsSeed s ∧ d = 0 ∧ t = 0 ∧ e = 1)
end Go.Proofs.YtpfhjdmgkckjfaaGreatDoor
