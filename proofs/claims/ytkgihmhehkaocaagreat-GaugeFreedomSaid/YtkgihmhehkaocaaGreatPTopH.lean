/- The bases of solutions have small numbers: mathematics, by going through the pairs of small units.
Conditions: those written at each theorem. -/
import Derived.Test.YtkgihmhehkaocaaGreatPTopA
import Derived.Test.YtkgihmhehkaocaaGreatPLqA
import Derived.Test.YtkgihmhehkaocaaGreatPGauF
namespace Go.Proofs.YtkgihmhehkaocaaGreat
set_option linter.unusedVariables false
set_option linter.unusedSimpArgs false
set_option maxRecDepth 1000000
open Um Tm

/-- the four equations of a pair of loops, by the numbers alone -/
def st4 (x y : Q) (C : List Q) : List Q := stepF (eqQ (dbl x) (dbl y) 3) [] (stepF (eqQ (dbl x) (dbl y) 2) [] (stepF (eqQ (dbl x) (dbl y) 1) [] (stepF (eqQ (dbl x) (dbl y) 0) [] C)))
def units4 : List Q := [un 0, un 1, un 2, un 3]
def le1 (q : Q) : Bool := decide (-1 ≤ q.a ∧ q.a ≤ 1 ∧ -1 ≤ q.b ∧ q.b ≤ 1 ∧ -1 ≤ q.c ∧ q.c ≤ 1 ∧ -1 ≤ q.d ∧ q.d ≤ 1)
def dL0 : List (List Q) := [[⟨-1, 0, 0, 0, 0⟩, ⟨0, -1, 0, 0, 0⟩], [⟨0, 0, 1, 0, 0⟩, ⟨0, 0, 0, 1, 0⟩], [⟨0, 1, 1, 0, 0⟩, ⟨1, 0, 0, 1, 0⟩], [⟨0, -1, 1, 0, 0⟩, ⟨-1, 0, 0, 1, 0⟩], [⟨-1, 0, 1, 0, 0⟩, ⟨0, 1, 0, 1, 0⟩], [⟨1, 0, 1, 0, 0⟩, ⟨0, -1, 0, 1, 0⟩], [⟨0, 0, -1, 0, 0⟩, ⟨0, 0, 0, -1, 0⟩], [⟨1, 0, 0, 0, 0⟩, ⟨0, 1, 0, 0, 0⟩], [⟨0, 1, -1, 0, 0⟩, ⟨1, 0, 0, -1, 0⟩], [⟨0, -1, -1, 0, 0⟩, ⟨-1, 0, 0, -1, 0⟩]]
def dL1 : List (List Q) := [[⟨-1, 0, -1, 0, 0⟩, ⟨0, 1, 0, -1, 0⟩], [⟨1, 0, -1, 0, 0⟩, ⟨0, -1, 0, -1, 0⟩], [⟨0, -1, -1, 0, 0⟩, ⟨1, 0, 0, -1, 0⟩], [⟨0, -1, 1, 0, 0⟩, ⟨1, 0, 0, 1, 0⟩], [⟨1, 0, 0, 0, 0⟩, ⟨0, 0, 1, 0, 0⟩], [⟨0, 1, 0, 0, 0⟩, ⟨0, 0, 0, 1, 0⟩], [⟨1, 1, 0, 0, 0⟩, ⟨0, 0, 1, 1, 0⟩], [⟨-1, 1, 0, 0, 0⟩, ⟨0, 0, -1, 1, 0⟩], [⟨0, 1, -1, 0, 0⟩, ⟨-1, 0, 0, -1, 0⟩], [⟨0, 1, 1, 0, 0⟩, ⟨-1, 0, 0, 1, 0⟩]]
def dL2 : List (List Q) := [[⟨0, -1, 0, 0, 0⟩, ⟨0, 0, 0, -1, 0⟩], [⟨-1, 0, 0, 0, 0⟩, ⟨0, 0, -1, 0, 0⟩], [⟨1, -1, 0, 0, 0⟩, ⟨0, 0, 1, -1, 0⟩], [⟨-1, -1, 0, 0, 0⟩, ⟨0, 0, -1, -1, 0⟩], [⟨-1, 0, -1, 0, 0⟩, ⟨0, -1, 0, -1, 0⟩], [⟨-1, 0, 1, 0, 0⟩, ⟨0, -1, 0, 1, 0⟩], [⟨1, -1, 0, 0, 0⟩, ⟨0, 0, -1, -1, 0⟩], [⟨1, 1, 0, 0, 0⟩, ⟨0, 0, -1, 1, 0⟩], [⟨-1, 0, 0, 0, 0⟩, ⟨0, 0, 0, -1, 0⟩], [⟨0, 1, 0, 0, 0⟩, ⟨0, 0, 1, 0, 0⟩]]
def dL3 : List (List Q) := [[⟨1, 0, -1, 0, 0⟩, ⟨0, 1, 0, -1, 0⟩], [⟨1, 0, 1, 0, 0⟩, ⟨0, 1, 0, 1, 0⟩], [⟨-1, -1, 0, 0, 0⟩, ⟨0, 0, 1, -1, 0⟩], [⟨-1, 1, 0, 0, 0⟩, ⟨0, 0, 1, 1, 0⟩], [⟨0, -1, 0, 0, 0⟩, ⟨0, 0, -1, 0, 0⟩], [⟨1, 0, 0, 0, 0⟩, ⟨0, 0, 0, 1, 0⟩], [⟨-1, 0, 0, 0, 0⟩, ⟨0, -1, -1, -1, 0⟩], [⟨-1, 0, 1, 0, 0⟩, ⟨1, 0, 0, 1, 0⟩], [⟨1, 1, 0, 0, 0⟩, ⟨-1, 0, 0, 1, 0⟩], [⟨-1, -1, 1, 0, 0⟩, ⟨0, 0, 0, 1, 0⟩]]
def dL4 : List (List Q) := [[⟨-1, 1, 0, 0, 0⟩, ⟨1, 0, 1, 0, 0⟩], [⟨0, 0, 1, 0, 0⟩, ⟨1, -1, 0, 1, 0⟩], [⟨0, 1, 0, 0, 0⟩, ⟨-1, 0, -1, 1, 0⟩], [⟨0, -1, 1, 0, 0⟩, ⟨0, -1, 0, 1, 0⟩], [⟨-1, 0, -1, 0, 0⟩, ⟨1, 0, 0, -1, 0⟩], [⟨-1, 0, 0, 0, 0⟩, ⟨0, 1, -1, -1, 0⟩], [⟨-1, -1, -1, 0, 0⟩, ⟨0, 0, 0, -1, 0⟩], [⟨1, 1, 0, 0, 0⟩, ⟨1, 0, 0, 1, 0⟩], [⟨0, 0, -1, 0, 0⟩, ⟨1, -1, 0, -1, 0⟩], [⟨-1, 1, 0, 0, 0⟩, ⟨-1, 0, 1, 0, 0⟩]]
def dL5 : List (List Q) := [[⟨0, -1, -1, 0, 0⟩, ⟨0, -1, 0, -1, 0⟩], [⟨0, 1, 0, 0, 0⟩, ⟨1, 0, -1, 1, 0⟩], [⟨1, -1, 0, 0, 0⟩, ⟨-1, 0, 0, -1, 0⟩], [⟨-1, 1, 1, 0, 0⟩, ⟨0, 0, 0, 1, 0⟩], [⟨-1, 0, 0, 0, 0⟩, ⟨0, -1, 1, -1, 0⟩], [⟨-1, 0, 1, 0, 0⟩, ⟨-1, 0, 0, 1, 0⟩], [⟨0, -1, 0, 0, 0⟩, ⟨-1, 0, -1, -1, 0⟩], [⟨0, 1, 1, 0, 0⟩, ⟨0, -1, 0, 1, 0⟩], [⟨1, 1, 0, 0, 0⟩, ⟨1, 0, 1, 0, 0⟩], [⟨0, 0, 1, 0, 0⟩, ⟨-1, -1, 0, 1, 0⟩]]
def dL6 : List (List Q) := [[⟨-1, 1, -1, 0, 0⟩, ⟨0, 0, 0, -1, 0⟩], [⟨1, -1, 0, 0, 0⟩, ⟨1, 0, 0, -1, 0⟩], [⟨-1, 0, -1, 0, 0⟩, ⟨-1, 0, 0, -1, 0⟩], [⟨-1, 0, 0, 0, 0⟩, ⟨0, 1, 1, -1, 0⟩], [⟨0, 1, -1, 0, 0⟩, ⟨0, -1, 0, -1, 0⟩], [⟨0, -1, 0, 0, 0⟩, ⟨1, 0, -1, -1, 0⟩], [⟨0, 0, -1, 0, 0⟩, ⟨-1, -1, 0, -1, 0⟩], [⟨1, 1, 0, 0, 0⟩, ⟨-1, 0, 1, 0, 0⟩], [⟨-1, -1, 0, 0, 0⟩, ⟨1, 0, -1, 0, 0⟩], [⟨0, 0, 1, 0, 0⟩, ⟨1, 1, 0, 1, 0⟩]]
def dL7 : List (List Q) := [[⟨0, 1, 0, 0, 0⟩, ⟨-1, 0, 1, 1, 0⟩], [⟨0, -1, 1, 0, 0⟩, ⟨0, 1, 0, 1, 0⟩], [⟨1, 0, 0, 0, 0⟩, ⟨0, -1, -1, 1, 0⟩], [⟨1, 0, 1, 0, 0⟩, ⟨1, 0, 0, 1, 0⟩], [⟨-1, 1, 0, 0, 0⟩, ⟨-1, 0, 0, 1, 0⟩], [⟨1, -1, 1, 0, 0⟩, ⟨0, 0, 0, 1, 0⟩], [⟨0, 0, -1, 0, 0⟩, ⟨1, 1, 0, -1, 0⟩], [⟨-1, -1, 0, 0, 0⟩, ⟨-1, 0, -1, 0, 0⟩], [⟨0, -1, -1, 0, 0⟩, ⟨0, 1, 0, -1, 0⟩], [⟨0, 1, 0, 0, 0⟩, ⟨1, 0, 1, 1, 0⟩]]
def dL8 : List (List Q) := [[⟨1, 0, -1, 0, 0⟩, ⟨1, 0, 0, -1, 0⟩], [⟨1, 0, 0, 0, 0⟩, ⟨0, 1, -1, 1, 0⟩], [⟨1, -1, -1, 0, 0⟩, ⟨0, 0, 0, -1, 0⟩], [⟨-1, 1, 0, 0, 0⟩, ⟨1, 0, 0, 1, 0⟩], [⟨0, -1, 0, 0, 0⟩, ⟨-1, 0, 1, -1, 0⟩], [⟨0, 1, 1, 0, 0⟩, ⟨0, 1, 0, 1, 0⟩], [⟨1, -1, 0, 0, 0⟩, ⟨1, 0, -1, 0, 0⟩], [⟨0, 0, 1, 0, 0⟩, ⟨-1, 1, 0, 1, 0⟩], [⟨-1, -1, 0, 0, 0⟩, ⟨-1, 0, 0, -1, 0⟩], [⟨1, 1, 1, 0, 0⟩, ⟨0, 0, 0, 1, 0⟩]]
def dL9 : List (List Q) := [[⟨1, 0, 0, 0, 0⟩, ⟨0, -1, 1, 1, 0⟩], [⟨1, 0, 1, 0, 0⟩, ⟨-1, 0, 0, 1, 0⟩], [⟨0, 1, -1, 0, 0⟩, ⟨0, 1, 0, -1, 0⟩], [⟨0, -1, 0, 0, 0⟩, ⟨1, 0, 1, -1, 0⟩], [⟨0, 0, -1, 0, 0⟩, ⟨-1, 1, 0, -1, 0⟩], [⟨1, -1, 0, 0, 0⟩, ⟨-1, 0, -1, 0, 0⟩], [⟨1, 1, -1, 0, 0⟩, ⟨0, 0, 0, -1, 0⟩], [⟨-1, -1, 0, 0, 0⟩, ⟨1, 0, 0, -1, 0⟩], [⟨1, 0, -1, 0, 0⟩, ⟨-1, 0, 0, -1, 0⟩], [⟨1, 0, 0, 0, 0⟩, ⟨0, 1, 1, 1, 0⟩]]
def dL : List (List Q) := dL0 ++ dL1 ++ dL2 ++ dL3 ++ dL4 ++ dL5 ++ dL6 ++ dL7 ++ dL8 ++ dL9
def one4B (C : List Q) : Bool := decide (C = units4) || dL.contains C || decide (C.length = 0)
theorem one4_all : ((List.range 24).all fun i => (List.range 24).all fun j => one4B (st4 (small (i : Nat)) (small (j : Nat)) units4)) = true := by decide +kernel
def two4B (C D : List Q) : Bool := decide (D = C) || (decide (D.length ≤ 1) && D.all le1)
def sameA (i j : Nat) : Bool := decide ((small (i : Nat)).a * (small (j : Nat)).n = (small (j : Nat)).a * (small (i : Nat)).n)
def two4 (l : List (List Q)) : Bool := (List.range 24).all fun i => (List.range 24).all fun j => !(sameA i j) || l.all fun C => two4B C (st4 (small (i : Nat)) (small (j : Nat)) C)
theorem two4_0 : two4 dL0 = true := by decide +kernel
theorem two4_1 : two4 dL1 = true := by decide +kernel
theorem two4_2 : two4 dL2 = true := by decide +kernel
theorem two4_3 : two4 dL3 = true := by decide +kernel
theorem two4_4 : two4 dL4 = true := by decide +kernel
theorem two4_5 : two4 dL5 = true := by decide +kernel
theorem two4_6 : two4 dL6 = true := by decide +kernel
theorem two4_7 : two4 dL7 = true := by decide +kernel
theorem two4_8 : two4 dL8 = true := by decide +kernel
theorem two4_9 : two4 dL9 = true := by decide +kernel
theorem two4_app {l m : List (List Q)} (h : two4 l = true) (h' : two4 m = true) : two4 (l ++ m) = true := by
  simp only [two4, List.all_eq_true, Bool.or_eq_true, List.mem_range, List.mem_append] at h h' ⊢
  intro i hi j hj
  rcases h i hi j hj with h1 | h1
  · exact .inl h1
  · rcases h' i hi j hj with h2 | h2
    · exact .inl h2
    · exact .inr fun C hC => hC.elim (h1 C) (h2 C)
theorem two4_dL : two4 dL = true := (two4_app (two4_app (two4_app (two4_app (two4_app (two4_app (two4_app (two4_app (two4_app two4_0 two4_1) two4_2) two4_3) two4_4) two4_5) two4_6) two4_7) two4_8) two4_9)
theorem dL_le : (dL.all fun C => C.all le1) = true := by decide +kernel
end Go.Proofs.YtkgihmhehkaocaaGreat

/- Certificates that are found have the elements -1, 0 and 1: mathematics.
Conditions: those written at each theorem. -/
namespace Go.Proofs.YtkgihmhehkaocaaGreat
set_option linter.unusedVariables false
set_option linter.unusedSimpArgs false
set_option maxRecDepth 1000000
open Um Tm

/-- the states of the solver between two loops -/
def St4 (C : List Q) : Prop := C = units4 ∨ C ∈ dL ∨ (C.length ≤ 1 ∧ ∀ q ∈ C, le1 q = true)
theorem rw_four {X Y : List Q} {i k : Nat} (hi : i < X.length) (hk : k < 4) : rwE X Y (4 * i + k) = eqQ (dbl (lk X (i : Int))) (dbl (lk Y (i : Int))) k := by
  unfold rwE
  rw [row_eqL X Y _ _ (by omega), show (4 * i + k) / 4 = i by omega, show (4 * i + k) % 4 = k by omega]
theorem sol_four {X Y : List Q} {i : Nat} (hi : i < X.length) : solF (rwE X Y) (4 * (i + 1)) = st4 (lk X (i : Int)) (lk Y (i : Int)) (solF (rwE X Y) (4 * i)) := by
  have r0 : rwE X Y (4 * i) = eqQ (dbl (lk X (i : Int))) (dbl (lk Y (i : Int))) 0 := rw_four (k := 0) hi (by decide)
  have e : ∀ n, solF (rwE X Y) (n + 1) = stepF (rwE X Y n) [] (solF (rwE X Y) n) := fun _ => rfl
  rw [show 4 * (i + 1) = 4 * i + 3 + 1 by omega, e, show 4 * i + 3 = 4 * i + 2 + 1 by omega, e, show 4 * i + 2 = 4 * i + 1 + 1 by omega, e, show 4 * i + 1 = 4 * i + 0 + 1 by omega, e]
  rw [show 4 * i + 0 + 1 + 1 + 1 = 4 * i + 3 by omega, show 4 * i + 0 + 1 + 1 = 4 * i + 2 by omega, show 4 * i + 0 + 1 = 4 * i + 1 by omega, rw_four hi (by decide), rw_four hi (by decide), rw_four hi (by decide), r0]
  rfl
theorem step_one (e : Q) {C : List Q} (h : C.length ≤ 1) : stepF e [] C = C ∨ stepF e [] C = [] := by
  match C, h with
  | [], _ => exact .inl rfl
  | [q], _ =>
    by_cases h0 : dot4 e q = 0
    · left; rw [stepF, if_pos h0]; rfl
    · right; rw [stepF, if_neg h0]; rfl
theorem step_le1 (e : Q) {C : List Q} (h : C.length ≤ 1 ∧ ∀ q ∈ C, le1 q = true) : (stepF e [] C).length ≤ 1 ∧ ∀ q ∈ stepF e [] C, le1 q = true := by
  rcases step_one e h.1 with h1 | h1
  · rw [h1]; exact h
  · rw [h1]; exact ⟨by simp, fun q hq => by simp at hq⟩
theorem St4.next {x y : Q} {C : List Q} (hx : Sm2 x) (hy : Sm2 y) (ha : x.a * y.n = y.a * x.n) (h : St4 C) : St4 (st4 x y C) := by
  obtain ⟨i, hi, rfl⟩ := sm2_is hx
  obtain ⟨j, hj, rfl⟩ := sm2_is hy
  rcases h with rfl | h | h
  · have h1 := one4_all
    simp only [List.all_eq_true, List.mem_range] at h1
    have h2 := h1 i hi j hj
    simp only [one4B, Bool.or_eq_true, decide_eq_true_eq] at h2
    rcases h2 with (h2 | h2) | h2
    · exact .inl h2
    · exact .inr (.inl (List.contains_iff_mem.1 h2))
    · rw [List.length_eq_zero_iff.1 h2]; exact .inr (.inr ⟨by simp, fun q hq => by simp at hq⟩)
  · have h1 := two4_dL
    simp only [two4, List.all_eq_true, Bool.or_eq_true, List.mem_range] at h1
    rcases h1 i hi j hj with h2 | h2
    · exfalso
      simp only [Bool.not_eq_true', sameA, decide_eq_false_iff_not] at h2
      exact h2 ha
    · have h3 := h2 C h
      simp only [two4B, Bool.or_eq_true, Bool.and_eq_true, decide_eq_true_eq, List.all_eq_true] at h3
      rcases h3 with h3 | ⟨h3, h4⟩
      · rw [h3]; exact .inr (.inl h)
      · exact .inr (.inr ⟨h3, h4⟩)
  · exact .inr (.inr (step_le1 _ (step_le1 _ (step_le1 _ (step_le1 _ h)))))
theorem St4.all {X Y : List Q} (hX : AllS X) (hY : AllS Y) (hl : Y.length = X.length) (ha : ∀ i : Nat, i < X.length → (lk X (i : Int)).a * (lk Y (i : Int)).n = (lk Y (i : Int)).a * (lk X (i : Int)).n) : ∀ i, i ≤ X.length → St4 (solF (rwE X Y) (4 * i))
  | 0, _ => .inl rfl
  | i + 1, h => by
    rw [sol_four (by omega)]
    exact St4.next (hX.lk (by omega) (by omega)) (hY.lk (by omega) (by omega)) (ha i (by omega)) (St4.all hX hY hl ha i (by omega))
theorem le1_b4 {q : Q} (h : le1 q = true) : B4 q 1 := by
  simp only [le1, decide_eq_true_eq] at h
  exact ⟨by omega, by omega, by omega, by omega⟩
theorem pm_b4 {q q' : Q} (h : Pm q q') (h' : B4 q' 1) : B4 q 1 := by
  obtain ⟨s, hs, hj⟩ := h
  have key : ∀ j, j < 4 → -1 ≤ cmp j q' ∧ cmp j q' ≤ 1 → -1 ≤ cmp j q ∧ cmp j q ≤ 1 := fun j hj4 hb => by
    rw [hj j hj4] at hb
    rcases hs with rfl | rfl <;> omega
  exact ⟨key 0 (by decide) h'.a, key 1 (by decide) h'.b, key 2 (by decide) h'.c, key 3 (by decide) h'.d⟩
theorem PmL.mem {B C : List Q} (h : PmL B C) : ∀ q ∈ B, ∃ q' ∈ C, Pm q q' := by
  induction h with
  | nil => intro q hq; simp at hq
  | cons h1 _ ih =>
    intro q hq
    rcases List.mem_cons.1 hq with rfl | hq
    · exact ⟨_, List.mem_cons_self, h1⟩
    · obtain ⟨q', h2, h3⟩ := ih q hq
      exact ⟨q', List.mem_cons_of_mem _ h2, h3⟩
/-- what the solver finds has the elements -1, 0 and 1 -/
theorem BasE.le {X Y B : List Q} (hX : AllS X) (hY : AllS Y) (hl : Y.length = X.length) (h : BasE X Y B) (hne : ∀ q ∈ B, ¬ Z4 q) : ∀ q ∈ B, B4 q 1 := fun q hq => by
  have hc := h.car hX hY hl hq
  have hs := St4.all hX hY hl (fun i hi => turns_a (hc i hi) (hne q hq)) X.length (Nat.le_refl _)
  obtain ⟨q', h1, h2⟩ := h.2.mem q hq
  rw [Nat.mul_comm] at hs
  refine pm_b4 h2 ?_
  rcases hs with hs | hs | hs
  · rw [hs] at h1
    simp only [units4, List.mem_cons, List.not_mem_nil, or_false] at h1
    rcases h1 with rfl | rfl | rfl | rfl <;> exact un_bnd
  · have := dL_le
    simp only [List.all_eq_true] at this
    exact le1_b4 (this _ hs _ h1)
  · exact le1_b4 (hs.2 _ h1)
end Go.Proofs.YtkgihmhehkaocaaGreat

/- Freedom and traces of a transformed field: mathematics.
Conditions: those written at each theorem. -/
namespace Go.Proofs.YtkgihmhehkaocaaGreat
set_option linter.unusedVariables false
set_option linter.unusedSimpArgs false
set_option maxRecDepth 1000000
open Um Tm

theorem turns_comp {p q u v w : Q} (hv : 0 < v.n) (h1 : turnsP q u v) (h2 : turnsP p v w) : turnsP (mul p q) u w := fun k hk => by
  have e1 := lin_l p h1 k hk
  have e2 := lin_r q h2 k hk
  rw [← mul_assoc] at e1
  rw [← mul_assoc] at e1
  rw [mul_assoc w p q] at e2
  have e : v.n * (cmp k (mul (mul p q) u) * w.n) = v.n * (cmp k (mul w (mul p q)) * u.n) := by
    generalize cmp k (mul (mul p q) u) = x at *
    generalize cmp k (mul w (mul p q)) = y at *
    generalize cmp k (mul (mul p v) q) = z at *
    grind
  exact Int.eq_of_mul_eq_mul_left (by omega) e
/-- carried over by a unit -/
def ov (g q : Q) : Q := mul g (mul q (bar g))
theorem ov_turns {g q u : Q} (hg : U g) (hu : V u) (h : turnsP q u u) : turnsP (ov g q) (cj g u) (cj g u) := by
  have hc : U (cj g u) := low_len _ (mul_len _ _ (mul_len _ _ hg hu.u) (bar_len _ hg))
  have t1 := turns_cj hg hu.u
  have t2 := turns_back hu.u hc t1
  exact turns_comp hu.u.pos (turns_comp hu.u.pos t2 h) t1
theorem lk_cj {X : List Q} {g : Q} {i : Nat} (hi : i < X.length) : lk (X.map (cj g)) (i : Int) = cj g (lk X (i : Int)) := by
  unfold lk
  rw [Int.toNat_natCast, List.getD_eq_getElem?_getD, List.getD_eq_getElem?_getD, List.getElem?_map, List.getElem?_eq_getElem hi]
  rfl
theorem ov_car {X : List Q} {g q : Q} (hX : AllS X) (hg : U g) (h : carP X X q) : carP (X.map (cj g)) (X.map (cj g)) (ov g q) := fun i hi => by
  rw [List.length_map] at hi
  rw [lk_cj hi]
  exact ov_turns hg (hX.lk (by omega) (by omega)).1 (h i hi)
theorem sg_four {α : Type} (f0 f1 f2 f3 h : α → Int) (x0 x1 x2 x3 : Int) : ∀ (B : List α) (cs : List Int), (∀ q ∈ B, h q = x0 * f0 q + x1 * f1 q + x2 * f2 q + x3 * f3 q) → sg h cs B = x0 * sg f0 cs B + x1 * sg f1 cs B + x2 * sg f2 cs B + x3 * sg f3 cs B := by
  intro B
  induction B with
  | nil => intro cs _; simp [sg_nil]
  | cons q B ih => intro cs hh; cases cs with
    | nil => simp [sg]
    | cons c cs =>
      simp only [sg, hh q List.mem_cons_self, ih cs (fun x hx => hh x (List.mem_cons_of_mem _ hx))]
      grind
theorem sg_mul_l (g : Q) (f : Q → Q) (B : List Q) (cs : List Int) (h : ∀ j, j < 4 → sg (fun q => cmp j (f q)) cs B = 0) : ∀ k, k < 4 → sg (fun q => cmp k (mul g (f q))) cs B = 0 := fun k hk => by
  have h0 := h 0 (by decide)
  have h1 := h 1 (by decide)
  have h2 := h 2 (by decide)
  have h3 := h 3 (by decide)
  rcases cases4 hk with rfl | rfl | rfl | rfl
  · rw [sg_four (fun q => cmp 0 (f q)) (fun q => cmp 1 (f q)) (fun q => cmp 2 (f q)) (fun q => cmp 3 (f q)) _ g.a (-g.b) (-g.c) (-g.d) B cs (fun q _ => by simp only [cmp, mul]; simp; grind), h0, h1, h2, h3]; simp
  · rw [sg_four (fun q => cmp 0 (f q)) (fun q => cmp 1 (f q)) (fun q => cmp 2 (f q)) (fun q => cmp 3 (f q)) _ g.b g.a (-g.d) g.c B cs (fun q _ => by simp only [cmp, mul]; simp; grind), h0, h1, h2, h3]; simp
  · rw [sg_four (fun q => cmp 0 (f q)) (fun q => cmp 1 (f q)) (fun q => cmp 2 (f q)) (fun q => cmp 3 (f q)) _ g.c g.d g.a (-g.b) B cs (fun q _ => by simp only [cmp, mul]; simp; grind), h0, h1, h2, h3]; simp
  · rw [sg_four (fun q => cmp 0 (f q)) (fun q => cmp 1 (f q)) (fun q => cmp 2 (f q)) (fun q => cmp 3 (f q)) _ g.d (-g.c) g.b g.a B cs (fun q _ => by simp only [cmp, mul]; simp; grind), h0, h1, h2, h3]; simp
theorem sg_mul_r (g : Q) (f : Q → Q) (B : List Q) (cs : List Int) (h : ∀ j, j < 4 → sg (fun q => cmp j (f q)) cs B = 0) : ∀ k, k < 4 → sg (fun q => cmp k (mul (f q) g)) cs B = 0 := fun k hk => by
  have h0 := h 0 (by decide)
  have h1 := h 1 (by decide)
  have h2 := h 2 (by decide)
  have h3 := h 3 (by decide)
  rcases cases4 hk with rfl | rfl | rfl | rfl
  · rw [sg_four (fun q => cmp 0 (f q)) (fun q => cmp 1 (f q)) (fun q => cmp 2 (f q)) (fun q => cmp 3 (f q)) _ g.a (-g.b) (-g.c) (-g.d) B cs (fun q _ => by simp only [cmp, mul]; simp; grind), h0, h1, h2, h3]; simp
  · rw [sg_four (fun q => cmp 0 (f q)) (fun q => cmp 1 (f q)) (fun q => cmp 2 (f q)) (fun q => cmp 3 (f q)) _ g.b g.a g.d (-g.c) B cs (fun q _ => by simp only [cmp, mul]; simp; grind), h0, h1, h2, h3]; simp
  · rw [sg_four (fun q => cmp 0 (f q)) (fun q => cmp 1 (f q)) (fun q => cmp 2 (f q)) (fun q => cmp 3 (f q)) _ g.c (-g.d) g.a g.b B cs (fun q _ => by simp only [cmp, mul]; simp; grind), h0, h1, h2, h3]; simp
  · rw [sg_four (fun q => cmp 0 (f q)) (fun q => cmp 1 (f q)) (fun q => cmp 2 (f q)) (fun q => cmp 3 (f q)) _ g.d g.c (-g.b) g.a B cs (fun q _ => by simp only [cmp, mul]; simp; grind), h0, h1, h2, h3]; simp
theorem ov_ind {g : Q} (hg : U g) {B : List Q} (h : Ind B) : Ind (B.map (ov g)) := fun cs hl hs => by
  rw [List.length_map] at hl
  have h1 : ∀ k, k < 4 → sg (fun q => cmp k (ov g q)) cs B = 0 := fun k hk => by
    have := hs k hk
    rwa [sg_smf, sg_of] at this
  have h2 := sg_mul_r g _ B cs (sg_mul_l (bar g) _ B cs h1)
  have hp := Int.mul_pos hg.pos hg.pos
  refine h cs hl fun k hk => ?_
  have h3 := h2 k hk
  have e : ∀ q : Q, cmp k (mul (mul (bar g) (ov g q)) g) = (g.n * g.n * (g.n * g.n)) * cmp k q := fun q => by
    unfold ov
    rw [← mul_assoc (bar g) g, bar_mul g hg, scale_mul, one_mul', scale_mul, mul_assoc q (bar g) g, bar_mul g hg, mul_scale, mul_one', scale_scale, cmp_scale]
  rw [sg_lin (cmp k) (cmp k) _ (g.n * g.n * (g.n * g.n)) 0 B cs (fun q _ => by rw [e q]; omega)] at h3
  rw [sg_smf]
  have h4 : g.n * g.n * (g.n * g.n) * sg (cmp k) cs B = 0 := by omega
  rcases Int.mul_eq_zero.1 h4 with h0 | h0
  · have := Int.mul_pos hp hp; omega
  · exact h0
theorem AllS.cj {X : List Q} {g : Q} (hX : AllS X) (hg : Sm2 g) : AllS (X.map (cj g)) := fun i x hx => by
  rw [List.getElem?_map] at hx
  cases h : X[i]? with
  | none => rw [h] at hx; cases hx
  | some y => rw [h] at hx; rw [← Option.some.inj hx]; exact Sm2.tri hg (hX i y h) hg
theorem free_le {X B B' : List Q} {g : Q} (hX : AllS X) (hg : Sm2 g) (h : BasE X X B) (h' : BasE (X.map (cj g)) (X.map (cj g)) B') : B.length ≤ B'.length := by
  have hX' := hX.cj hg
  have := Ind.le (ov_ind hg.1.u h.1.i) (P := fun q => ∀ j, j < (X.map (cj g)).length * 4 → dot4 (rwE (X.map (cj g)) (X.map (cj g)) j) q = 0) (fun q hq => by
    obtain ⟨p, hp, rfl⟩ := List.mem_map.1 hq
    exact (car_rows hX' hX' rfl).1 (ov_car hX hg.1.u (h.car hX hX rfl hp))) h'.1.s
  rwa [List.length_map] at this
theorem cj_back {X : List Q} {g : Q} (hX : AllS X) (hg : Sm2 g) : (X.map (cj g)).map (cj (bar g)) = X := by
  rw [List.map_map]
  conv => rhs; rw [← List.map_id X]
  refine List.map_congr_left fun x hx => ?_
  obtain ⟨i, hi, rfl⟩ := List.getElem_of_mem hx
  exact tf_back hg.1.u (hX i _ (List.getElem?_eq_getElem hi)).1 hg.1.u
/-- the freedom does not change by a transformation -/
theorem free_same {X B B' : List Q} {g : Q} (hX : AllS X) (hg : Sm2 g) (h : BasE X X B) (h' : BasE (X.map (cj g)) (X.map (cj g)) B') : B.length = B'.length := by
  have h1 := free_le hX hg h h'
  have h2 := free_le (g := bar g) (hX.cj hg) hg.bar h' (B' := B) (by rw [cj_back hX hg]; exact h)
  omega
/-! ### plaquettes are closed -/
def clB (a b c : Int) (N : Nat) : Bool := (List.range (3 * N)).all fun i => decide (en a b c ((i : Int) / 3) (pth ((i : Int) % 3)) = (i : Int) / 3)
def clAll : Bool := (List.range 4).all fun a => (List.range 4).all fun b => (List.range 4).all fun c => decide (16 < (a + 1) * (b + 1) * (c + 1)) || clB (a + 1) (b + 1) (c + 1) ((a + 1) * (b + 1) * (c + 1))
end Go.Proofs.YtkgihmhehkaocaaGreat

/- Certificates: the answers of Certificate, Equivalent, Freedom on fields of small units, each by the connectors of the loops. -/
namespace Go.Proofs.YtkgihmhehkaocaaGreat
set_option linter.unusedVariables false
set_option linter.unusedSimpArgs false
set_option maxRecDepth 1000000
open Go.ChangeShapes Go.WideShapes Go.ChangeAt Go.RowKit
open Um Tm

theorem BasE.ne {X Y B : List Q} {q : Q} (h : BasE X Y (q :: B)) : ¬ Z4 q := fun ⟨h1, h2, h3, h4⟩ => by
  have z : ∀ k, k < 4 → cmp k q = 0 := fun k hk => by
    rcases cases4 hk with rfl | rfl | rfl | rfl
    · exact h1
    · exact h2
    · exact h3
    · exact h4
  have := h.1.i (1 :: List.replicate B.length 0) (by simp) (fun k hk => by
    have e : ∀ (B : List Q) (n : Nat), smf (cmp k) (List.replicate n 0) B = 0 := by
      intro B
      induction B with
      | nil => intro n; exact smf_nil _ _
      | cons p B ih => intro n; cases n with
        | zero => rfl
        | succ n => show 0 * cmp k p + smf (cmp k) (List.replicate n 0) B = 0; rw [ih]; omega
    show 1 * cmp k q + smf (cmp k) (List.replicate B.length 0) B = 0
    rw [e, z k hk]; rfl) 1 List.mem_cons_self
  cases this
theorem BasE.all_ne {X Y B : List Q} (h : BasE X Y B) : ∀ q ∈ B, ¬ Z4 q := fun q hq hz => by
  obtain ⟨B1, B2, rfl⟩ := List.append_of_mem hq
  obtain ⟨h1, h2, h3, h4⟩ := hz
  have z : ∀ k, k < 4 → cmp k q = 0 := fun k hk => by
    rcases cases4 hk with rfl | rfl | rfl | rfl
    · exact h1
    · exact h2
    · exact h3
    · exact h4
  have zz : ∀ (f : Q → Int) (B : List Q) (n : Nat), smf f (List.replicate n 0) B = 0 := by
    intro f B
    induction B with
    | nil => intro n; exact smf_nil _ _
    | cons p B ih => intro n; cases n with
      | zero => rfl
      | succ n => show 0 * f p + smf f (List.replicate n 0) B = 0; rw [ih]; omega
  have key : ∀ (f : Q → Int) (B1 : List Q), f q = 0 → smf f (List.replicate B1.length 0 ++ 1 :: List.replicate B2.length 0) (B1 ++ q :: B2) = 0 := by
    intro f B1 h0
    induction B1 with
    | nil => show 1 * f q + smf f (List.replicate B2.length 0) B2 = 0; rw [zz, h0]; rfl
    | cons p B1 ih => show 0 * f p + smf f (List.replicate B1.length 0 ++ 1 :: List.replicate B2.length 0) (B1 ++ q :: B2) = 0; rw [ih]; omega
  have := h.1.i (List.replicate B1.length 0 ++ 1 :: List.replicate B2.length 0) (by simp) (fun k hk => key (cmp k) B1 (z k hk)) 1 (by simp)
  cases this
/-- Equivalent's answer, by whether there is a certificate -/
theorem eqv_good (a b c : Int) (ao bo : Option Addr) (cap cap' N : Nat) (L M : List Q) (ms ns : List Int) (hf : fldR a b c L 0) (hf' : fldR a b c M 0) (hS : smR L ms true) (hS' : smR M ns true) (hN : (N : Int) = a * b * c) (d : Bool) (hd : ((∃ q, carP (lpL a b c N L) (lpL a b c N M) q ∧ ¬ Z4 q) ∧ d = true) ∨ ((¬ ∃ q, carP (lpL a b c N L) (lpL a b c N M) q ∧ ¬ Z4 q) ∧ d = false)) (W : World) (k1 : LiesO W ao L) (k2 : LiesO W bo M) : Calls Tryz.prog 8 #[.agg #[.int .i64 a, .int .i64 b, .int .i64 c, .slice ao L.length cap], .agg #[.int .i64 a, .int .i64 b, .int .i64 c, .slice bo M.length cap']] W fun e w' => e = .returned (.tuple #[.bool d, .int .i64 0]) ∧ Below W.heap.size W w' := by
  have hF : Fl a b c L := ⟨(fldR_ok hf).1, (fldR_ok hf).2.1, (fldR_ok hf).2.2⟩
  have hF' : Fl a b c M := ⟨(fldR_ok hf').1, (fldR_ok hf').2.1, (fldR_ok hf').2.2⟩
  have hA := AllS.num hS
  have hA' := AllS.num hS'
  obtain ⟨hX, hX48⟩ := lp_good hF hA hN
  obtain ⟨hY, -⟩ := lp_good hF' hA' hN
  have hYl : (lpL a b c N M).length = (lpL a b c N L).length := lp_same (by have := hF.n; have := hF'.n; omega)
  have hp := fld_pos1 hf
  have hp' := fld_pos1 hf'
  have cB : ∀ W : World, LiesO W ao L → LiesO W bo M → Calls Tryz.prog 28 #[.agg #[.int .i64 a, .int .i64 b, .int .i64 c, .slice ao L.length cap], .agg #[.int .i64 a, .int .i64 b, .int .i64 c, .slice bo M.length cap']] W fun e w' => (∃ (ao : Option Addr) (k : Nat), e = .returned (.tuple #[.slice ao ((lpL a b c N L).length * 4) k, .int .i64 0]) ∧ LiesOI w' ao (eqL (lpL a b c N L) (lpL a b c N M) (lpL a b c N L).length)) ∧ Below W.heap.size W w' := fun W j1 j2 => by
    obtain ⟨b1, o1, rfl, m1⟩ := liesO_one j1 hp
    obtain ⟨b2, o2, rfl, m2⟩ := liesO_one j2 hp'
    exact bw_ok a b c b1 o1 b2 o2 cap cap' N L M ms ns W m1 m2 hf hf' hS hS' hN
  have cC := fun (W : World) (j1 : LiesO W ao L) (j2 : LiesO W bo M) => cert_ok a b c a b c ao bo cap cap' L M _ _ W j1 j2 hX hY hYl (by omega) cB
  refine (equiv_ok a b c a b c ao bo cap cap' L M _ _ W k1 k2 cC).mono fun e w' ⟨⟨B, hB, hc⟩, hw⟩ => ⟨?_, hw⟩
  rcases hc with ⟨rfl, he⟩ | ⟨hne, he⟩
  · rcases hd with ⟨⟨q, h1, h2⟩, rfl⟩ | ⟨_, rfl⟩
    · exact absurd (hB.nil hX hY hYl h1) h2
    · exact he
  · rcases hd with ⟨_, rfl⟩ | ⟨h, rfl⟩
    · exact he
    · cases B with
      | nil => exact absurd rfl hne
      | cons q B => exact absurd ⟨q, hB.car hX hY hYl List.mem_cons_self, hB.ne⟩ h
theorem eqv_bad (a b c a' b' c' r : Int) (ao bo : Option Addr) (cap cap' : Nat) (L M : List Q) (h0 : r ≠ 0) (cB : ∀ W : World, LiesO W ao L → LiesO W bo M → Calls Tryz.prog 28 #[.agg #[.int .i64 a, .int .i64 b, .int .i64 c, .slice ao L.length cap], .agg #[.int .i64 a', .int .i64 b', .int .i64 c', .slice bo M.length cap']] W fun e w' => e = .returned (.tuple #[.slice none 0 0, .int .i64 r]) ∧ Below W.heap.size W w') (W : World) (k1 : LiesO W ao L) (k2 : LiesO W bo M) : Calls Tryz.prog 8 #[.agg #[.int .i64 a, .int .i64 b, .int .i64 c, .slice ao L.length cap], .agg #[.int .i64 a', .int .i64 b', .int .i64 c', .slice bo M.length cap']] W fun e w' => e = .returned (.tuple #[.bool false, .int .i64 r]) ∧ Below W.heap.size W w' :=
  equiv_err a b c a' b' c' r ao bo cap cap' L M W k1 k2 (fun W j1 j2 => cert_err a b c a' b' c' r ao bo cap cap' L M W j1 j2 h0 cB)

theorem bw_at (a b c : Int) (ao bo : Option Addr) (cap cap' N : Nat) (L M : List Q) (ms ns : List Int) (hf : fldR a b c L 0) (hf' : fldR a b c M 0) (hS : smR L ms true) (hS' : smR M ns true) (hN : (N : Int) = a * b * c) (W : World) (j1 : LiesO W ao L) (j2 : LiesO W bo M) : Calls Tryz.prog 28 #[.agg #[.int .i64 a, .int .i64 b, .int .i64 c, .slice ao L.length cap], .agg #[.int .i64 a, .int .i64 b, .int .i64 c, .slice bo M.length cap']] W fun e w' => (∃ (ao : Option Addr) (k : Nat), e = .returned (.tuple #[.slice ao ((lpL a b c N L).length * 4) k, .int .i64 0]) ∧ LiesOI w' ao (eqL (lpL a b c N L) (lpL a b c N M) (lpL a b c N L).length)) ∧ Below W.heap.size W w' := by
  obtain ⟨b1, o1, rfl, m1⟩ := liesO_one j1 (fld_pos1 hf)
  obtain ⟨b2, o2, rfl, m2⟩ := liesO_one j2 (fld_pos1 hf')
  exact bw_ok a b c b1 o1 b2 o2 cap cap' N L M ms ns W m1 m2 hf hf' hS hS' hN
/-- a certificate that is accepted -/
def Ce (X Y : List Q) (q : Q) : Prop := carP X Y q ∧ ¬ Z4 q ∧ B4 q 1000
theorem B4.up {q : Q} (h : B4 q 1) : B4 q 1000 := by
  obtain ⟨h1, h2, h3, h4⟩ := h
  constructor <;> omega
theorem cert_not (a b c : Int) (ao bo : Option Addr) (cap cap' N : Nat) (L M : List Q) (ms ns : List Int) (hf : fldR a b c L 0) (hf' : fldR a b c M 0) (hS : smR L ms true) (hS' : smR M ns true) (hN : (N : Int) = a * b * c) (hd : ¬ ∃ q, carP (lpL a b c N L) (lpL a b c N M) q ∧ ¬ Z4 q) (W : World) (k1 : LiesO W ao L) (k2 : LiesO W bo M) : Calls Tryz.prog 10 #[.agg #[.int .i64 a, .int .i64 b, .int .i64 c, .slice ao L.length cap], .agg #[.int .i64 a, .int .i64 b, .int .i64 c, .slice bo M.length cap']] W fun e w' => e = .returned (NoCe 0) ∧ Below W.heap.size W w' := by
  have hF : Fl a b c L := ⟨(fldR_ok hf).1, (fldR_ok hf).2.1, (fldR_ok hf).2.2⟩
  have hF' : Fl a b c M := ⟨(fldR_ok hf').1, (fldR_ok hf').2.1, (fldR_ok hf').2.2⟩
  obtain ⟨hX, hX48⟩ := lp_good hF (AllS.num hS) hN
  obtain ⟨hY, -⟩ := lp_good hF' (AllS.num hS') hN
  have hYl : (lpL a b c N M).length = (lpL a b c N L).length := lp_same (by have := hF.n; have := hF'.n; omega)
  refine (cert_ok a b c a b c ao bo cap cap' L M _ _ W k1 k2 hX hY hYl (by omega) (fun W j1 j2 => bw_at a b c ao bo cap cap' N L M ms ns hf hf' hS hS' hN W j1 j2)).mono fun e w' ⟨⟨B, hB, hc⟩, hw⟩ => ⟨?_, hw⟩
  rcases hc with ⟨rfl, he⟩ | ⟨q, B', rfl, he⟩
  · exact he
  · exact absurd ⟨q, hB.car hX hY hYl List.mem_cons_self, hB.ne⟩ hd
/-- Freedom, on a field of small units -/
theorem free_at (a b c : Int) (ao : Option Addr) (cap N : Nat) (L : List Q) (ms : List Int) (hf : fldR a b c L 0) (hS : smR L ms true) (hN : (N : Int) = a * b * c) (W : World) (k1 : LiesO W ao L) : Calls Tryz.prog 12 #[.agg #[.int .i64 a, .int .i64 b, .int .i64 c, .slice ao L.length cap]] W fun e w' => (∃ B, BasE (lpL a b c N L) (lpL a b c N L) B ∧ e = .returned (.tuple #[.int .i64 (B.length : Int), .int .i64 0])) ∧ Below W.heap.size W w' := by
  have hF : Fl a b c L := ⟨(fldR_ok hf).1, (fldR_ok hf).2.1, (fldR_ok hf).2.2⟩
  obtain ⟨hX, hX48⟩ := lp_good hF (AllS.num hS) hN
  exact free_ok a b c ao cap L _ W k1 hX (by omega) (fun W j1 j2 => bw_at a b c ao ao cap cap N L L ms ms hf hf hS hS hN W j1 j2)
theorem BasE.one {X Y B B' : List Q} (h : BasE X Y B) (h' : BasE X Y B') : B.length = B'.length := (h.2.len).symm.trans h'.2.len
end Go.Proofs.YtkgihmhehkaocaaGreat
