/- Plain mathematics of the plaquettes of a link: the four numbers that the directions give, sorted, each once, are the plaquettes that have the link, for all sizes; no Go.
Conditions: sizes that are allowed, a link of the torus. -/
import Derived.Test.YtpfhjdmgkckjfaaGreatDoorFMathA
import Derived.Lib.SlicesCompact
import Derived.Test.YtpfhjdmgkckjfaaGreatDoorFOpen
import Derived.ChangeKeysEq
set_option autoImplicit false
namespace Cm
set_option linter.unusedVariables false
set_option linter.unusedSimpArgs false
open Tm
/-- the two plaquettes that one other direction gives -/
def two (a b c l o : Int) : List Int := [3 * (l / 3) + (l % 3 + o - 1), 3 * nx a b c (l / 3) (-o - 1) + (l % 3 + o - 1)]
def four (a b c l : Int) : List Int := if l % 3 = 0 then two a b c l 1 ++ two a b c l 2 else if l % 3 = 1 then two a b c l 0 ++ two a b c l 2 else two a b c l 0 ++ two a b c l 1
/-- the links of a plaquette -/
def lks (a b c p : Int) : List Int :=
  let s := p / 3
  let A : Int := if p % 3 = 2 then 1 else 0
  let B : Int := if p % 3 = 0 then 1 else 2
  [3 * s + A, 3 * nx a b c s (A + 1) + B, 3 * nx a b c s (B + 1) + A, 3 * s + B]
def has (a b c l p : Int) : Bool := (lks a b c p).contains l
/-- the plaquettes of a link -/
def thr (a b c l : Int) : List Int := ((List.range (3 * (a * b * c)).toNat).map Int.ofNat).filter (has a b c l)
theorem thr_all : ∀ a : Fin 4, ∀ b : Fin 4, ∀ c : Fin 4, (a.val+1) * (b.val+1) * (c.val+1) ≤ 16 → ∀ l : Fin (3 * ((a.val+1) * (b.val+1) * (c.val+1))), Go.Lib.compact (isort (four (a.val+1 : Nat) (b.val+1 : Nat) (c.val+1 : Nat) (l.val : Nat))) = thr (a.val+1 : Nat) (b.val+1 : Nat) (c.val+1 : Nat) (l.val : Nat) := by decide +kernel
theorem thr_eq {a b c l : Int} (h : Sz a b c) (h0 : 0 ≤ l) (h1 : l < 3 * (a * b * c)) : Go.Lib.compact (isort (four a b c l)) = thr a b c l := by
  obtain ⟨a1, a4, b1, b4, c1, c4, hp⟩ := h
  obtain ⟨x, rfl⟩ := Int.eq_ofNat_of_zero_le (show 0 ≤ a - 1 by omega) |>.imp fun x hx => (by omega : a = ((x + 1 : Nat) : Int))
  obtain ⟨y, rfl⟩ := Int.eq_ofNat_of_zero_le (show 0 ≤ b - 1 by omega) |>.imp fun x hx => (by omega : b = ((x + 1 : Nat) : Int))
  obtain ⟨z, rfl⟩ := Int.eq_ofNat_of_zero_le (show 0 ≤ c - 1 by omega) |>.imp fun x hx => (by omega : c = ((x + 1 : Nat) : Int))
  obtain ⟨k, rfl⟩ := Int.eq_ofNat_of_zero_le h0
  have e : (3 : Int) * (((x + 1 : Nat) : Int) * ((y + 1 : Nat) : Int) * ((z + 1 : Nat) : Int)) = ((3 * ((x + 1) * (y + 1) * (z + 1)) : Nat) : Int) := by simp
  rw [e] at h1
  have e2 : (((x + 1 : Nat) : Int) * ((y + 1 : Nat) : Int) * ((z + 1 : Nat) : Int)) = (((x + 1) * (y + 1) * (z + 1) : Nat) : Int) := by simp
  rw [e2] at hp
  exact thr_all ⟨x, by omega⟩ ⟨y, by omega⟩ ⟨z, by omega⟩ (by exact_mod_cast hp) ⟨k, by exact_mod_cast h1⟩
end Cm

namespace Go.Proofs.YtpfhjdmgkckjfaaGreatDoor
set_option linter.unusedVariables false
set_option linter.unusedSimpArgs false
set_option maxRecDepth 1000000
open Go.RowKit
open Um

theorem parts_apart {x y : Q} (he : ¬ x = y) : ¬ x.a = y.a ∨ (x.a = y.a ∧ ¬ x.b = y.b) ∨ (x.a = y.a ∧ x.b = y.b ∧ ¬ x.c = y.c) ∨ (x.a = y.a ∧ x.b = y.b ∧ x.c = y.c ∧ ¬ x.d = y.d) ∨ (x.a = y.a ∧ x.b = y.b ∧ x.c = y.c ∧ x.d = y.d ∧ ¬ x.n = y.n) := by
  by_cases h1 : x.a = y.a
  · by_cases h2 : x.b = y.b
    · by_cases h3 : x.c = y.c
      · by_cases h4 : x.d = y.d
        · refine .inr (.inr (.inr (.inr ⟨h1, h2, h3, h4, fun h5 => he ?_⟩)))
          cases x
          cases y
          simp at h1 h2 h3 h4 h5
          simp [h1, h2, h3, h4, h5]
        · exact .inr (.inr (.inr (.inl ⟨h1, h2, h3, h4⟩)))
      · exact .inr (.inr (.inl ⟨h1, h2, h3⟩))
    · exact .inr (.inl ⟨h1, h2⟩)
  · exact .inl h1

theorem eqU (x y : Q) (W : World) : Sem.run Tryz.prog (Op.equalIn 10000 73 (.agg #[.int .i64 x.a, .int .i64 x.b, .int .i64 x.c, .int .i64 x.d, .int .i64 x.n]) (.agg #[.int .i64 y.a, .int .i64 y.b, .int .i64 y.c, .int .i64 y.d, .int .i64 y.n])) W = .ok (decide (x = y)) W := by
  by_cases h : x = y
  · subst h
    simp [go_sem]
  · have hd : decide (x = y) = false := by simpa using h
    rw [hd]
    rcases parts_apart h with h | h | h | h | h
    all_goals simp [go_sem, h]

end Go.Proofs.YtpfhjdmgkckjfaaGreatDoor

namespace Go.Proofs.YtpfhjdmgkckjfaaGreatDoor
set_option linter.unusedVariables false
set_option linter.unusedSimpArgs false
set_option maxRecDepth 1000000
open Go.RowKit
open Cm

def stepR (s r e : Int) : Prop := (IsSeed s ∧ r = nxt s ∧ e = 0) ∨ (¬ IsSeed s ∧ r = 0 ∧ e = 1)
set_option maxHeartbeats 400000 in
theorem step_any (s r er : Int) (w : World) (h : stepR s r er) : Calls Tryz.prog 34 #[.int .i64 s] w fun e w' => e = .returned (.tuple #[.int .i64 r, .int .i64 er]) ∧ w = w' := by
  rcases h with ⟨h, rfl, rfl⟩ | ⟨h, rfl, rfl⟩
  · have c1 := fun W : World => checkSeed_any s 0 W (.inl ⟨h, rfl⟩)
    have c2 := fun W : World => chNext_any s W h
    clear h
    go_enter Tryz.func34, Tryz.ntmps34
    go_wp2_with (first | ((with_reducible refine (c1 _).mono ?_); rintro e w1 ⟨rfl, rfl⟩) | ((with_reducible refine (c2 _).mono ?_); rintro e w1 ⟨rfl, rfl⟩))
    go_ret2
    exact ⟨rfl, rfl⟩
  · have c1 := fun W : World => checkSeed_any s 1 W (.inr ⟨h, rfl⟩)
    clear h
    go_enter Tryz.func34, Tryz.ntmps34
    go_wp2_with ((with_reducible refine (c1 _).mono ?_); rintro e w1 ⟨rfl, rfl⟩)
    go_ret2
    exact ⟨rfl, rfl⟩
def drawR (s n d t e : Int) : Prop := (IsSeed s ∧ (1 ≤ n ∧ n ≤ 1099511627776) ∧ d = drw s n ∧ t = adv s ∧ e = 0) ∨ (IsSeed s ∧ ¬ (1 ≤ n ∧ n ≤ 1099511627776) ∧ d = 0 ∧ t = 0 ∧ e = 1) ∨ (¬ IsSeed s ∧ d = 0 ∧ t = 0 ∧ e = 1)
end Go.Proofs.YtpfhjdmgkckjfaaGreatDoor
