/- The bases of solutions have small numbers: mathematics, by going through the pairs of small units.
Conditions: those written at each theorem. -/
import Derived.Test.YtojmagooapjohaaTopA
import Derived.Test.YtojmagooapjohaaLqA
import Derived.Test.YtojmagooapjohaaGauF
import Derived.Test.YtojmagooapjohaaGauC
import Derived.Test.YtojmagooapjohaaHkM
import Derived.Test.YtojmagooapjohaaGauD
import Derived.Test.YtojmagooapjohaaHwC
import Derived.Test.YtojmagooapjohaaOpen4
import Derived.Test.YtojmagooapjohaaJFacts
import Derived.Deep.CutRange
namespace Go.Proofs.Ytojmagooapjohaa
set_option linter.unusedVariables false
set_option linter.unusedSimpArgs false
set_option maxRecDepth 1000000
open Um Tm

/-- the four equations of a pair of loops, by the numbers alone -/
def st4 (x y : Q) (C : List Q) : List Q := stepF (eqQ (dbl x) (dbl y) 3) [] (stepF (eqQ (dbl x) (dbl y) 2) [] (stepF (eqQ (dbl x) (dbl y) 1) [] (stepF (eqQ (dbl x) (dbl y) 0) [] C)))
def units4 : List Q := [un 0, un 1, un 2, un 3]
def le1 (q : Q) : Bool := decide (-1 ≤ q.a ∧ q.a ≤ 1 ∧ -1 ≤ q.b ∧ q.b ≤ 1 ∧ -1 ≤ q.c ∧ q.c ≤ 1 ∧ -1 ≤ q.d ∧ q.d ≤ 1)
def dL0 : List (List Q) := [[⟨-1, 0, 0, 0, 0⟩, ⟨0, -1, 0, 0, 0⟩], [⟨0, 0, 1, 0, 0⟩, ⟨0, 0, 0, 1, 0⟩], [⟨0, 1, 1, 0, 0⟩, ⟨1, 0, 0, 1, 0⟩], [⟨0, -1, 1, 0, 0⟩, ⟨-1, 0, 0, 1, 0⟩], [⟨-1, 0, 1, 0, 0⟩, ⟨0, 1, 0, 1, 0⟩], [⟨1, 0, 1, 0, 0⟩, ⟨0, -1, 0, 1, 0⟩], [⟨0, 0, -1, 0, 0⟩, ⟨0, 0, 0, -1, 0⟩], [⟨1, 0, 0, 0, 0⟩, ⟨0, 1, 0, 0, 0⟩], [⟨0, 1, -1, 0, 0⟩, ⟨1, 0, 0, -1, 0⟩], [⟨0, -1, -1, 0, 0⟩, ⟨-1, 0, 0, -1, 0⟩]]
def dL1 : List (List Q) := [[⟨-1, 0, -1, 0, 0⟩, ⟨0, 1, 0, -1, 0⟩], [⟨1, 0, -1, 0, 0⟩, ⟨0, -1, 0, -1, 0⟩], [⟨0, -1, -1, 0, 0⟩, ⟨1, 0, 0, -1, 0⟩], [⟨0, -1, 1, 0, 0⟩, ⟨1, 0, 0, 1, 0⟩], [⟨1, 0, 0, 0, 0⟩, ⟨0, 0, 1, 0, 0⟩], [⟨0, 1, 0, 0, 0⟩, ⟨0, 0, 0, 1, 0⟩], [⟨1, 1, 0, 0, 0⟩, ⟨0, 0, 1, 1, 0⟩], [⟨-1, 1, 0, 0, 0⟩, ⟨0, 0, -1, 1, 0⟩], [⟨0, 1, -1, 0, 0⟩, ⟨-1, 0, 0, -1, 0⟩], [⟨0, 1, 1, 0, 0⟩, ⟨-1, 0, 0, 1, 0⟩]]
def dL2 : List (List Q) := [[⟨0, -1, 0, 0, 0⟩, ⟨0, 0, 0, -1, 0⟩], [⟨-1, 0, 0, 0, 0⟩, ⟨0, 0, -1, 0, 0⟩], [⟨1, -1, 0, 0, 0⟩, ⟨0, 0, 1, -1, 0⟩], [⟨-1, -1, 0, 0, 0⟩, ⟨0, 0, -1, -1, 0⟩], [⟨-1, 0, -1, 0, 0⟩, ⟨0, -1, 0, -1, 0⟩], [⟨-1, 0, 1, 0, 0⟩, ⟨0, -1, 0, 1, 0⟩], [⟨1, -1, 0, 0, 0⟩, ⟨0, 0, -1, -1, 0⟩], [⟨1, 1, 0, 0, 0⟩, ⟨0, 0, -1, 1, 0⟩], [⟨-1, 0, 0, 0, 0⟩, ⟨0, 0, 0, -1, 0⟩], [⟨0, 1, 0, 0, 0⟩, ⟨0, 0, 1, 0, 0⟩]]
def dL3 : List (List Q) := [[⟨1, 0, -1, 0, 0⟩, ⟨0, 1, 0, -1, 0⟩], [⟨1, 0, 1, 0, 0⟩, ⟨0, 1, 0, 1, 0⟩], [⟨-1, -1, 0, 0, 0⟩, ⟨0, 0, 1, -1, 0⟩], [⟨-1, 1, 0, 0, 0⟩, ⟨0, 0, 1, 1, 0⟩], [⟨0, -1, 0, 0, 0⟩, ⟨0, 0, -1, 0, 0⟩], [⟨1, 0, 0, 0, 0⟩, ⟨0, 0, 0, 1, 0⟩], [⟨-1, 0, 0, 0, 0⟩, ⟨0, -1, -1, -1, 0⟩], [⟨-1, 0, 1, 0, 0⟩, ⟨1, 0, 0, 1, 0⟩], [⟨1, 1, 0, 0, 0⟩, ⟨-1, 0, 0, 1, 0⟩], [⟨-1, -1, 1, 0, 0⟩, ⟨0, 0, 0, 1, 0⟩]]
def dL4 : List (List Q) := [[⟨-1, 1, 0, 0, 0⟩, ⟨1, 0, 1, 0, 0⟩], [⟨0, 0, 1, 0, 0⟩, ⟨1, -1, 0, 1, 0⟩], [⟨0, 1, 0, 0, 0⟩, ⟨-1, 0, -1, 1, 0⟩], [⟨0, -1, 1, 0, 0⟩, ⟨0, -1, 0, 1, 0⟩], [⟨-1, 0, -1, 0, 0⟩, ⟨1, 0, 0, -1, 0⟩], [⟨-1, 0, 0, 0, 0⟩, ⟨0, 1, -1, -1, 0⟩], [⟨-1, -1, -1, 0, 0⟩, ⟨0, 0, 0, -1, 0⟩], [⟨1, 1, 0, 0, 0⟩, ⟨1, 0, 0, 1, 0⟩], [⟨0, 0, -1, 0, 0⟩, ⟨1, -1, 0, -1, 0⟩], [⟨-1, 1, 0, 0, 0⟩, ⟨-1, 0, 1, 0, 0⟩]]
def dL5 : List (List Q) := [[⟨0, -1, -1, 0, 0⟩, ⟨0, -1, 0, -1, 0⟩], [⟨0, 1, 0, 0, 0⟩, ⟨1, 0, -1, 1, 0⟩], [⟨1, -1, 0, 0, 0⟩, ⟨-1, 0, 0, -1, 0⟩], [⟨-1, 1, 1, 0, 0⟩, ⟨0, 0, 0, 1, 0⟩], [⟨-1, 0, 0, 0, 0⟩, ⟨0, -1, 1, -1, 0⟩], [⟨-1, 0, 1, 0, 0⟩, ⟨-1, 0, 0, 1, 0⟩], [⟨0, -1, 0, 0, 0⟩, ⟨-1, 0, -1, -1, 0⟩], [⟨0, 1, 1, 0, 0⟩, ⟨0, -1, 0, 1, 0⟩], [⟨1, 1, 0, 0, 0⟩, ⟨1, 0, 1, 0, 0⟩], [⟨0, 0, 1, 0, 0⟩, ⟨-1, -1, 0, 1, 0⟩]]
def dL6 : List (List Q) := [[⟨-1, 1, -1, 0, 0⟩, ⟨0, 0, 0, -1, 0⟩], [⟨1, -1, 0, 0, 0⟩, ⟨1, 0, 0, -1, 0⟩], [⟨-1, 0, -1, 0, 0⟩, ⟨-1, 0, 0, -1, 0⟩], [⟨-1, 0, 0, 0, 0⟩, ⟨0, 1, 1, -1, 0⟩], [⟨0, 1, -1, 0, 0⟩, ⟨0, -1, 0, -1, 0⟩], [⟨0, -1, 0, 0, 0⟩, ⟨1, 0, -1, -1, 0⟩], [⟨0, 0, -1, 0, 0⟩, ⟨-1, -1, 0, -1, 0⟩], [⟨1, 1, 0, 0, 0⟩, ⟨-1, 0, 1, 0, 0⟩], [⟨-1, -1, 0, 0, 0⟩, ⟨1, 0, -1, 0, 0⟩], [⟨0, 0, 1, 0, 0⟩, ⟨1, 1, 0, 1, 0⟩]]
def dL7 : List (List Q) := [[⟨0, 1, 0, 0, 0⟩, ⟨-1, 0, 1, 1, 0⟩], [⟨0, -1, 1, 0, 0⟩, ⟨0, 1, 0, 1, 0⟩], [⟨1, 0, 0, 0, 0⟩, ⟨0, -1, -1, 1, 0⟩], [⟨1, 0, 1, 0, 0⟩, ⟨1, 0, 0, 1, 0⟩], [⟨-1, 1, 0, 0, 0⟩, ⟨-1, 0, 0, 1, 0⟩], [⟨1, -1, 1, 0, 0⟩, ⟨0, 0, 0, 1, 0⟩], [⟨0, 0, -1, 0, 0⟩, ⟨1, 1, 0, -1, 0⟩], [⟨-1, -1, 0, 0, 0⟩, ⟨-1, 0, -1, 0, 0⟩], [⟨0, -1, -1, 0, 0⟩, ⟨0, 1, 0, -1, 0⟩], [⟨0, 1, 0, 0, 0⟩, ⟨1, 0, 1, 1, 0⟩]]
def dL8 : List (List Q) := [[⟨1, 0, -1, 0, 0⟩, ⟨1, 0, 0, -1, 0⟩], [⟨1, 0, 0, 0, 0⟩, ⟨0, 1, -1, 1, 0⟩], [⟨1, -1, -1, 0, 0⟩, ⟨0, 0, 0, -1, 0⟩], [⟨-1, 1, 0, 0, 0⟩, ⟨1, 0, 0, 1, 0⟩], [⟨0, -1, 0, 0, 0⟩, ⟨-1, 0, 1, -1, 0⟩], [⟨0, 1, 1, 0, 0⟩, ⟨0, 1, 0, 1, 0⟩], [⟨1, -1, 0, 0, 0⟩, ⟨1, 0, -1, 0, 0⟩], [⟨0, 0, 1, 0, 0⟩, ⟨-1, 1, 0, 1, 0⟩], [⟨-1, -1, 0, 0, 0⟩, ⟨-1, 0, 0, -1, 0⟩], [⟨1, 1, 1, 0, 0⟩, ⟨0, 0, 0, 1, 0⟩]]
def dL9 : List (List Q) := [[⟨1, 0, 0, 0, 0⟩, ⟨0, -1, 1, 1, 0⟩], [⟨1, 0, 1, 0, 0⟩, ⟨-1, 0, 0, 1, 0⟩], [⟨0, 1, -1, 0, 0⟩, ⟨0, 1, 0, -1, 0⟩], [⟨0, -1, 0, 0, 0⟩, ⟨1, 0, 1, -1, 0⟩], [⟨0, 0, -1, 0, 0⟩, ⟨-1, 1, 0, -1, 0⟩], [⟨1, -1, 0, 0, 0⟩, ⟨-1, 0, -1, 0, 0⟩], [⟨1, 1, -1, 0, 0⟩, ⟨0, 0, 0, -1, 0⟩], [⟨-1, -1, 0, 0, 0⟩, ⟨1, 0, 0, -1, 0⟩], [⟨1, 0, -1, 0, 0⟩, ⟨-1, 0, 0, -1, 0⟩], [⟨1, 0, 0, 0, 0⟩, ⟨0, 1, 1, 1, 0⟩]]
def dL : List (List Q) := dL0 ++ dL1 ++ dL2 ++ dL3 ++ dL4 ++ dL5 ++ dL6 ++ dL7 ++ dL8 ++ dL9
def one4B (C : List Q) : Bool := decide (C = units4) || dL.contains C || decide (C.length = 0)
theorem one4_all : ((List.range 24).all fun i => (List.range 24).all fun j => one4B (st4 (small (i : Nat)) (small (j : Nat)) units4)) = true := by decide +kernel
def two4B (C D : List Q) : Bool := decide (D = C) || (decide (D.length ≤ 1) && D.all le1)
def sameA (i j : Nat) : Bool := decide ((small (i : Nat)).a * (small (j : Nat)).n = (small (j : Nat)).a * (small (i : Nat)).n)
def two4 (l : List (List Q)) : Bool := (List.range 24).all fun i => (List.range 24).all fun j => !(sameA i j) || l.all fun C => two4B C (st4 (small (i : Nat)) (small (j : Nat)) C)
theorem two4_0 : two4 dL0 = true := by decide +kernel
theorem two4_1 : two4 dL1 = true := by decide +kernel
theorem two4_2 : two4 dL2 = true := by decide +kernel
theorem two4_3 : two4 dL3 = true := by decide +kernel
theorem two4_4 : two4 dL4 = true := by decide +kernel
theorem two4_5 : two4 dL5 = true := by decide +kernel
theorem two4_6 : two4 dL6 = true := by decide +kernel
theorem two4_7 : two4 dL7 = true := by decide +kernel
theorem two4_8 : two4 dL8 = true := by decide +kernel
theorem two4_9 : two4 dL9 = true := by decide +kernel
theorem two4_app {l m : List (List Q)} (h : two4 l = true) (h' : two4 m = true) : two4 (l ++ m) = true := by
  simp only [two4, List.all_eq_true, Bool.or_eq_true, List.mem_range, List.mem_append] at h h' ⊢
  intro i hi j hj
  rcases h i hi j hj with h1 | h1
  · exact .inl h1
  · rcases h' i hi j hj with h2 | h2
    · exact .inl h2
    · exact .inr fun C hC => hC.elim (h1 C) (h2 C)
theorem two4_dL : two4 dL = true := (two4_app (two4_app (two4_app (two4_app (two4_app (two4_app (two4_app (two4_app (two4_app two4_0 two4_1) two4_2) two4_3) two4_4) two4_5) two4_6) two4_7) two4_8) two4_9)
theorem dL_le : (dL.all fun C => C.all le1) = true := by decide +kernel
end Go.Proofs.Ytojmagooapjohaa

/- Certificates that are found have the elements -1, 0 and 1: mathematics.
Conditions: those written at each theorem. -/
namespace Go.Proofs.Ytojmagooapjohaa
set_option linter.unusedVariables false
set_option linter.unusedSimpArgs false
set_option maxRecDepth 1000000
open Um Tm

/-- the states of the solver between two loops -/
def St4 (C : List Q) : Prop := C = units4 ∨ C ∈ dL ∨ (C.length ≤ 1 ∧ ∀ q ∈ C, le1 q = true)
theorem rw_four {X Y : List Q} {i k : Nat} (hi : i < X.length) (hk : k < 4) : rwE X Y (4 * i + k) = eqQ (dbl (lk X (i : Int))) (dbl (lk Y (i : Int))) k := by
  unfold rwE
  rw [row_eqL X Y _ _ (by omega), show (4 * i + k) / 4 = i by omega, show (4 * i + k) % 4 = k by omega]
theorem sol_four {X Y : List Q} {i : Nat} (hi : i < X.length) : solF (rwE X Y) (4 * (i + 1)) = st4 (lk X (i : Int)) (lk Y (i : Int)) (solF (rwE X Y) (4 * i)) := by
  have r0 : rwE X Y (4 * i) = eqQ (dbl (lk X (i : Int))) (dbl (lk Y (i : Int))) 0 := rw_four (k := 0) hi (by decide)
  have e : ∀ n, solF (rwE X Y) (n + 1) = stepF (rwE X Y n) [] (solF (rwE X Y) n) := fun _ => rfl
  rw [show 4 * (i + 1) = 4 * i + 3 + 1 by omega, e, show 4 * i + 3 = 4 * i + 2 + 1 by omega, e, show 4 * i + 2 = 4 * i + 1 + 1 by omega, e, show 4 * i + 1 = 4 * i + 0 + 1 by omega, e]
  rw [show 4 * i + 0 + 1 + 1 + 1 = 4 * i + 3 by omega, show 4 * i + 0 + 1 + 1 = 4 * i + 2 by omega, show 4 * i + 0 + 1 = 4 * i + 1 by omega, rw_four hi (by decide), rw_four hi (by decide), rw_four hi (by decide), r0]
  rfl
theorem step_one (e : Q) {C : List Q} (h : C.length ≤ 1) : stepF e [] C = C ∨ stepF e [] C = [] := by
  match C, h with
  | [], _ => exact .inl rfl
  | [q], _ =>
    by_cases h0 : dot4 e q = 0
    · left; rw [stepF, if_pos h0]; rfl
    · right; rw [stepF, if_neg h0]; rfl
theorem step_le1 (e : Q) {C : List Q} (h : C.length ≤ 1 ∧ ∀ q ∈ C, le1 q = true) : (stepF e [] C).length ≤ 1 ∧ ∀ q ∈ stepF e [] C, le1 q = true := by
  rcases step_one e h.1 with h1 | h1
  · rw [h1]; exact h
  · rw [h1]; exact ⟨by simp, fun q hq => by simp at hq⟩
theorem St4.next {x y : Q} {C : List Q} (hx : Sm2 x) (hy : Sm2 y) (ha : x.a * y.n = y.a * x.n) (h : St4 C) : St4 (st4 x y C) := by
  obtain ⟨i, hi, rfl⟩ := sm2_is hx
  obtain ⟨j, hj, rfl⟩ := sm2_is hy
  rcases h with rfl | h | h
  · have h1 := one4_all
    simp only [List.all_eq_true, List.mem_range] at h1
    have h2 := h1 i hi j hj
    simp only [one4B, Bool.or_eq_true, decide_eq_true_eq] at h2
    rcases h2 with (h2 | h2) | h2
    · exact .inl h2
    · exact .inr (.inl (List.contains_iff_mem.1 h2))
    · rw [List.length_eq_zero_iff.1 h2]; exact .inr (.inr ⟨by simp, fun q hq => by simp at hq⟩)
  · have h1 := two4_dL
    simp only [two4, List.all_eq_true, Bool.or_eq_true, List.mem_range] at h1
    rcases h1 i hi j hj with h2 | h2
    · exfalso
      simp only [Bool.not_eq_true', sameA, decide_eq_false_iff_not] at h2
      exact h2 ha
    · have h3 := h2 C h
      simp only [two4B, Bool.or_eq_true, Bool.and_eq_true, decide_eq_true_eq, List.all_eq_true] at h3
      rcases h3 with h3 | ⟨h3, h4⟩
      · rw [h3]; exact .inr (.inl h)
      · exact .inr (.inr ⟨h3, h4⟩)
  · exact .inr (.inr (step_le1 _ (step_le1 _ (step_le1 _ (step_le1 _ h)))))
theorem St4.all {X Y : List Q} (hX : AllS X) (hY : AllS Y) (hl : Y.length = X.length) (ha : ∀ i : Nat, i < X.length → (lk X (i : Int)).a * (lk Y (i : Int)).n = (lk Y (i : Int)).a * (lk X (i : Int)).n) : ∀ i, i ≤ X.length → St4 (solF (rwE X Y) (4 * i))
  | 0, _ => .inl rfl
  | i + 1, h => by
    rw [sol_four (by omega)]
    exact St4.next (hX.lk (by omega) (by omega)) (hY.lk (by omega) (by omega)) (ha i (by omega)) (St4.all hX hY hl ha i (by omega))
theorem le1_b4 {q : Q} (h : le1 q = true) : B4 q 1 := by
  simp only [le1, decide_eq_true_eq] at h
  exact ⟨by omega, by omega, by omega, by omega⟩
theorem pm_b4 {q q' : Q} (h : Pm q q') (h' : B4 q' 1) : B4 q 1 := by
  obtain ⟨s, hs, hj⟩ := h
  have key : ∀ j, j < 4 → -1 ≤ cmp j q' ∧ cmp j q' ≤ 1 → -1 ≤ cmp j q ∧ cmp j q ≤ 1 := fun j hj4 hb => by
    rw [hj j hj4] at hb
    rcases hs with rfl | rfl <;> omega
  exact ⟨key 0 (by decide) h'.a, key 1 (by decide) h'.b, key 2 (by decide) h'.c, key 3 (by decide) h'.d⟩
theorem PmL.mem {B C : List Q} (h : PmL B C) : ∀ q ∈ B, ∃ q' ∈ C, Pm q q' := by
  induction h with
  | nil => intro q hq; simp at hq
  | cons h1 _ ih =>
    intro q hq
    rcases List.mem_cons.1 hq with rfl | hq
    · exact ⟨_, List.mem_cons_self, h1⟩
    · obtain ⟨q', h2, h3⟩ := ih q hq
      exact ⟨q', List.mem_cons_of_mem _ h2, h3⟩
/-- what the solver finds has the elements -1, 0 and 1 -/
theorem BasE.le {X Y B : List Q} (hX : AllS X) (hY : AllS Y) (hl : Y.length = X.length) (h : BasE X Y B) (hne : ∀ q ∈ B, ¬ Z4 q) : ∀ q ∈ B, B4 q 1 := fun q hq => by
  have hc := h.car hX hY hl hq
  have hs := St4.all hX hY hl (fun i hi => turns_a (hc i hi) (hne q hq)) X.length (Nat.le_refl _)
  obtain ⟨q', h1, h2⟩ := h.2.mem q hq
  rw [Nat.mul_comm] at hs
  refine pm_b4 h2 ?_
  rcases hs with hs | hs | hs
  · rw [hs] at h1
    simp only [units4, List.mem_cons, List.not_mem_nil, or_false] at h1
    rcases h1 with rfl | rfl | rfl | rfl <;> exact un_bnd
  · have := dL_le
    simp only [List.all_eq_true] at this
    exact le1_b4 (this _ hs _ h1)
  · exact le1_b4 (hs.2 _ h1)
end Go.Proofs.Ytojmagooapjohaa

/- Freedom and traces of a transformed field: mathematics.
Conditions: those written at each theorem. -/
namespace Go.Proofs.Ytojmagooapjohaa
set_option linter.unusedVariables false
set_option linter.unusedSimpArgs false
set_option maxRecDepth 1000000
open Um Tm

theorem turns_comp {p q u v w : Q} (hv : 0 < v.n) (h1 : turnsP q u v) (h2 : turnsP p v w) : turnsP (mul p q) u w := fun k hk => by
  have e1 := lin_l p h1 k hk
  have e2 := lin_r q h2 k hk
  rw [← mul_assoc] at e1
  rw [← mul_assoc] at e1
  rw [mul_assoc w p q] at e2
  have e : v.n * (cmp k (mul (mul p q) u) * w.n) = v.n * (cmp k (mul w (mul p q)) * u.n) := by
    generalize cmp k (mul (mul p q) u) = x at *
    generalize cmp k (mul w (mul p q)) = y at *
    generalize cmp k (mul (mul p v) q) = z at *
    grind
  exact Int.eq_of_mul_eq_mul_left (by omega) e
/-- carried over by a unit -/
def ov (g q : Q) : Q := mul g (mul q (bar g))
theorem ov_turns {g q u : Q} (hg : U g) (hu : V u) (h : turnsP q u u) : turnsP (ov g q) (cj g u) (cj g u) := by
  have hc : U (cj g u) := low_len _ (mul_len _ _ (mul_len _ _ hg hu.u) (bar_len _ hg))
  have t1 := turns_cj hg hu.u
  have t2 := turns_back hu.u hc t1
  exact turns_comp hu.u.pos (turns_comp hu.u.pos t2 h) t1
theorem lk_cj {X : List Q} {g : Q} {i : Nat} (hi : i < X.length) : lk (X.map (cj g)) (i : Int) = cj g (lk X (i : Int)) := by
  unfold lk
  rw [Int.toNat_natCast, List.getD_eq_getElem?_getD, List.getD_eq_getElem?_getD, List.getElem?_map, List.getElem?_eq_getElem hi]
  rfl
theorem ov_car {X : List Q} {g q : Q} (hX : AllS X) (hg : U g) (h : carP X X q) : carP (X.map (cj g)) (X.map (cj g)) (ov g q) := fun i hi => by
  rw [List.length_map] at hi
  rw [lk_cj hi]
  exact ov_turns hg (hX.lk (by omega) (by omega)).1 (h i hi)
theorem sg_four {α : Type} (f0 f1 f2 f3 h : α → Int) (x0 x1 x2 x3 : Int) : ∀ (B : List α) (cs : List Int), (∀ q ∈ B, h q = x0 * f0 q + x1 * f1 q + x2 * f2 q + x3 * f3 q) → sg h cs B = x0 * sg f0 cs B + x1 * sg f1 cs B + x2 * sg f2 cs B + x3 * sg f3 cs B := by
  intro B
  induction B with
  | nil => intro cs _; simp [sg_nil]
  | cons q B ih => intro cs hh; cases cs with
    | nil => simp [sg]
    | cons c cs =>
      simp only [sg, hh q List.mem_cons_self, ih cs (fun x hx => hh x (List.mem_cons_of_mem _ hx))]
      grind
theorem sg_mul_l (g : Q) (f : Q → Q) (B : List Q) (cs : List Int) (h : ∀ j, j < 4 → sg (fun q => cmp j (f q)) cs B = 0) : ∀ k, k < 4 → sg (fun q => cmp k (mul g (f q))) cs B = 0 := fun k hk => by
  have h0 := h 0 (by decide)
  have h1 := h 1 (by decide)
  have h2 := h 2 (by decide)
  have h3 := h 3 (by decide)
  rcases cases4 hk with rfl | rfl | rfl | rfl
  · rw [sg_four (fun q => cmp 0 (f q)) (fun q => cmp 1 (f q)) (fun q => cmp 2 (f q)) (fun q => cmp 3 (f q)) _ g.a (-g.b) (-g.c) (-g.d) B cs (fun q _ => by simp only [cmp, mul]; simp; grind), h0, h1, h2, h3]; simp
  · rw [sg_four (fun q => cmp 0 (f q)) (fun q => cmp 1 (f q)) (fun q => cmp 2 (f q)) (fun q => cmp 3 (f q)) _ g.b g.a (-g.d) g.c B cs (fun q _ => by simp only [cmp, mul]; simp; grind), h0, h1, h2, h3]; simp
  · rw [sg_four (fun q => cmp 0 (f q)) (fun q => cmp 1 (f q)) (fun q => cmp 2 (f q)) (fun q => cmp 3 (f q)) _ g.c g.d g.a (-g.b) B cs (fun q _ => by simp only [cmp, mul]; simp; grind), h0, h1, h2, h3]; simp
  · rw [sg_four (fun q => cmp 0 (f q)) (fun q => cmp 1 (f q)) (fun q => cmp 2 (f q)) (fun q => cmp 3 (f q)) _ g.d (-g.c) g.b g.a B cs (fun q _ => by simp only [cmp, mul]; simp; grind), h0, h1, h2, h3]; simp
theorem sg_mul_r (g : Q) (f : Q → Q) (B : List Q) (cs : List Int) (h : ∀ j, j < 4 → sg (fun q => cmp j (f q)) cs B = 0) : ∀ k, k < 4 → sg (fun q => cmp k (mul (f q) g)) cs B = 0 := fun k hk => by
  have h0 := h 0 (by decide)
  have h1 := h 1 (by decide)
  have h2 := h 2 (by decide)
  have h3 := h 3 (by decide)
  rcases cases4 hk with rfl | rfl | rfl | rfl
  · rw [sg_four (fun q => cmp 0 (f q)) (fun q => cmp 1 (f q)) (fun q => cmp 2 (f q)) (fun q => cmp 3 (f q)) _ g.a (-g.b) (-g.c) (-g.d) B cs (fun q _ => by simp only [cmp, mul]; simp; grind), h0, h1, h2, h3]; simp
  · rw [sg_four (fun q => cmp 0 (f q)) (fun q => cmp 1 (f q)) (fun q => cmp 2 (f q)) (fun q => cmp 3 (f q)) _ g.b g.a g.d (-g.c) B cs (fun q _ => by simp only [cmp, mul]; simp; grind), h0, h1, h2, h3]; simp
  · rw [sg_four (fun q => cmp 0 (f q)) (fun q => cmp 1 (f q)) (fun q => cmp 2 (f q)) (fun q => cmp 3 (f q)) _ g.c (-g.d) g.a g.b B cs (fun q _ => by simp only [cmp, mul]; simp; grind), h0, h1, h2, h3]; simp
  · rw [sg_four (fun q => cmp 0 (f q)) (fun q => cmp 1 (f q)) (fun q => cmp 2 (f q)) (fun q => cmp 3 (f q)) _ g.d g.c (-g.b) g.a B cs (fun q _ => by simp only [cmp, mul]; simp; grind), h0, h1, h2, h3]; simp
theorem ov_ind {g : Q} (hg : U g) {B : List Q} (h : Ind B) : Ind (B.map (ov g)) := fun cs hl hs => by
  rw [List.length_map] at hl
  have h1 : ∀ k, k < 4 → sg (fun q => cmp k (ov g q)) cs B = 0 := fun k hk => by
    have := hs k hk
    rwa [sg_smf, sg_of] at this
  have h2 := sg_mul_r g _ B cs (sg_mul_l (bar g) _ B cs h1)
  have hp := Int.mul_pos hg.pos hg.pos
  refine h cs hl fun k hk => ?_
  have h3 := h2 k hk
  have e : ∀ q : Q, cmp k (mul (mul (bar g) (ov g q)) g) = (g.n * g.n * (g.n * g.n)) * cmp k q := fun q => by
    unfold ov
    rw [← mul_assoc (bar g) g, bar_mul g hg, scale_mul, one_mul', scale_mul, mul_assoc q (bar g) g, bar_mul g hg, mul_scale, mul_one', scale_scale, cmp_scale]
  rw [sg_lin (cmp k) (cmp k) _ (g.n * g.n * (g.n * g.n)) 0 B cs (fun q _ => by rw [e q]; omega)] at h3
  rw [sg_smf]
  have h4 : g.n * g.n * (g.n * g.n) * sg (cmp k) cs B = 0 := by omega
  rcases Int.mul_eq_zero.1 h4 with h0 | h0
  · have := Int.mul_pos hp hp; omega
  · exact h0
theorem AllS.cj {X : List Q} {g : Q} (hX : AllS X) (hg : Sm2 g) : AllS (X.map (cj g)) := fun i x hx => by
  rw [List.getElem?_map] at hx
  cases h : X[i]? with
  | none => rw [h] at hx; cases hx
  | some y => rw [h] at hx; rw [← Option.some.inj hx]; exact Sm2.tri hg (hX i y h) hg
theorem free_le {X B B' : List Q} {g : Q} (hX : AllS X) (hg : Sm2 g) (h : BasE X X B) (h' : BasE (X.map (cj g)) (X.map (cj g)) B') : B.length ≤ B'.length := by
  have hX' := hX.cj hg
  have := Ind.le (ov_ind hg.1.u h.1.i) (P := fun q => ∀ j, j < (X.map (cj g)).length * 4 → dot4 (rwE (X.map (cj g)) (X.map (cj g)) j) q = 0) (fun q hq => by
    obtain ⟨p, hp, rfl⟩ := List.mem_map.1 hq
    exact (car_rows hX' hX' rfl).1 (ov_car hX hg.1.u (h.car hX hX rfl hp))) h'.1.s
  rwa [List.length_map] at this
theorem cj_back {X : List Q} {g : Q} (hX : AllS X) (hg : Sm2 g) : (X.map (cj g)).map (cj (bar g)) = X := by
  rw [List.map_map]
  conv => rhs; rw [← List.map_id X]
  refine List.map_congr_left fun x hx => ?_
  obtain ⟨i, hi, rfl⟩ := List.getElem_of_mem hx
  exact tf_back hg.1.u (hX i _ (List.getElem?_eq_getElem hi)).1 hg.1.u
/-- the freedom does not change by a transformation -/
theorem free_same {X B B' : List Q} {g : Q} (hX : AllS X) (hg : Sm2 g) (h : BasE X X B) (h' : BasE (X.map (cj g)) (X.map (cj g)) B') : B.length = B'.length := by
  have h1 := free_le hX hg h h'
  have h2 := free_le (g := bar g) (hX.cj hg) hg.bar h' (B' := B) (by rw [cj_back hX hg]; exact h)
  omega
theorem free_all {X B : List Q} (hX : AllS X) (h : BasE X X B) (ha : ∀ q, carP X X q) : B.length = 4 := by
  have h1 := Ind.le (B' := [un 0, un 1, un 2, un 3]) h.1.i (P := fun _ => True) (fun _ _ => trivial) (fun q _ => spn_un q trivial)
  have h2 := Ind.le ind_un (P := fun q => ∀ j, j < X.length * 4 → dot4 (rwE X X j) q = 0) (fun q _ => (car_rows hX hX rfl).1 (ha q)) h.1.s
  simp at h1 h2
  omega
theorem cold_car : ∀ q, carP [one, one, one] [one, one, one] q := fun q i hi => by
  have e : lk [one, one, one] (i : Int) = one := by
    match i, hi with
    | 0, _ => rfl
    | 1, _ => rfl
    | 2, _ => rfl
  rw [e]; exact turns_one q
theorem cold_s : AllS [one, one, one] := fun i x hx => by
  match i, hx with
  | 0, hx => simp at hx; subst hx; exact Sm2.one
  | 1, hx => simp at hx; subst hx; exact Sm2.one
  | 2, hx => simp at hx; subst hx; exact Sm2.one
  | i + 3, hx => simp at hx
theorem cold_lp : lpL 1 1 1 1 [one, one, one] = [one, one, one] := by decide +kernel
/-! ### plaquettes are closed -/
def clB (a b c : Int) (N : Nat) : Bool := (List.range (3 * N)).all fun i => decide (en a b c ((i : Int) / 3) (pth ((i : Int) % 3)) = (i : Int) / 3)
def clAll : Bool := (List.range 4).all fun a => (List.range 4).all fun b => (List.range 4).all fun c => decide (16 < (a + 1) * (b + 1) * (c + 1)) || clB (a + 1) (b + 1) (c + 1) ((a + 1) * (b + 1) * (c + 1))
theorem clAll_true : clAll = true := by decide +kernel
theorem pq_closed {a b c : Int} {N : Nat} (hz : Sz a b c) (hN : (N : Int) = a * b * c) {i : Nat} (hi : i < 3 * N) : en a b c ((i : Int) / 3) (pth ((i : Int) % 3)) = (i : Int) / 3 := by
  obtain ⟨a1, a4, b1, b4, c1, c4, hp⟩ := hz
  obtain ⟨A, rfl⟩ : ∃ A : Nat, a = ((A : Int) + 1) := ⟨(a - 1).toNat, by omega⟩
  obtain ⟨B, rfl⟩ : ∃ B : Nat, b = ((B : Int) + 1) := ⟨(b - 1).toNat, by omega⟩
  obtain ⟨C, rfl⟩ : ∃ C : Nat, c = ((C : Int) + 1) := ⟨(c - 1).toNat, by omega⟩
  have h := clAll_true
  simp only [clAll, List.all_eq_true, List.mem_range] at h
  have h2 := h A (by omega) B (by omega) C (by omega)
  have e : (((A + 1) * (B + 1) * (C + 1) : Nat) : Int) = ((A : Int) + 1) * ((B : Int) + 1) * ((C : Int) + 1) := by simp
  obtain rfl : N = (A + 1) * (B + 1) * (C + 1) := by omega
  have h3 : decide (16 < (A + 1) * (B + 1) * (C + 1)) = false := by
    rw [decide_eq_false_iff_not]
    omega
  rw [h3, Bool.false_or] at h2
  simp only [clB, List.all_eq_true, List.mem_range, decide_eq_true_eq] at h2
  exact h2 i hi
/-- the traces of the plaquettes do not change by a transformation -/
theorem trs_tf {a b c : Int} {N : Nat} {L G : List Q} (hF : Fl a b c L) (hN : (N : Int) = a * b * c) (hG : Gg L G) : trs a b c (tfL a b c L G) (3 * N) = trs a b c L (3 * N) := by
  unfold trs pqs
  rw [List.map_map, List.map_map]
  refine List.map_congr_left fun i hi => ?_
  have hi := List.mem_range.1 hi
  exact (al_closed hF hG (by omega) (by omega) (pth_steps _) (pq_closed hF.z hN hi)).1
end Go.Proofs.Ytojmagooapjohaa

/- Certificates: the answers of Certificate, Equivalent, Freedom on fields of small units, each by the connectors of the loops. -/
namespace Go.Proofs.Ytojmagooapjohaa
set_option linter.unusedVariables false
set_option linter.unusedSimpArgs false
set_option maxRecDepth 1000000
open Go.ChangeShapes Go.WideShapes Go.ChangeAt Go.RowKit
open Um Tm

theorem BasE.ne {X Y B : List Q} {q : Q} (h : BasE X Y (q :: B)) : ¬ Z4 q := fun ⟨h1, h2, h3, h4⟩ => by
  have z : ∀ k, k < 4 → cmp k q = 0 := fun k hk => by
    rcases cases4 hk with rfl | rfl | rfl | rfl
    · exact h1
    · exact h2
    · exact h3
    · exact h4
  have := h.1.i (1 :: List.replicate B.length 0) (by simp) (fun k hk => by
    have e : ∀ (B : List Q) (n : Nat), smf (cmp k) (List.replicate n 0) B = 0 := by
      intro B
      induction B with
      | nil => intro n; exact smf_nil _ _
      | cons p B ih => intro n; cases n with
        | zero => rfl
        | succ n => show 0 * cmp k p + smf (cmp k) (List.replicate n 0) B = 0; rw [ih]; omega
    show 1 * cmp k q + smf (cmp k) (List.replicate B.length 0) B = 0
    rw [e, z k hk]; rfl) 1 List.mem_cons_self
  cases this
theorem BasE.all_ne {X Y B : List Q} (h : BasE X Y B) : ∀ q ∈ B, ¬ Z4 q := fun q hq hz => by
  obtain ⟨B1, B2, rfl⟩ := List.append_of_mem hq
  obtain ⟨h1, h2, h3, h4⟩ := hz
  have z : ∀ k, k < 4 → cmp k q = 0 := fun k hk => by
    rcases cases4 hk with rfl | rfl | rfl | rfl
    · exact h1
    · exact h2
    · exact h3
    · exact h4
  have zz : ∀ (f : Q → Int) (B : List Q) (n : Nat), smf f (List.replicate n 0) B = 0 := by
    intro f B
    induction B with
    | nil => intro n; exact smf_nil _ _
    | cons p B ih => intro n; cases n with
      | zero => rfl
      | succ n => show 0 * f p + smf f (List.replicate n 0) B = 0; rw [ih]; omega
  have key : ∀ (f : Q → Int) (B1 : List Q), f q = 0 → smf f (List.replicate B1.length 0 ++ 1 :: List.replicate B2.length 0) (B1 ++ q :: B2) = 0 := by
    intro f B1 h0
    induction B1 with
    | nil => show 1 * f q + smf f (List.replicate B2.length 0) B2 = 0; rw [zz, h0]; rfl
    | cons p B1 ih => show 0 * f p + smf f (List.replicate B1.length 0 ++ 1 :: List.replicate B2.length 0) (B1 ++ q :: B2) = 0; rw [ih]; omega
  have := h.1.i (List.replicate B1.length 0 ++ 1 :: List.replicate B2.length 0) (by simp) (fun k hk => key (cmp k) B1 (z k hk)) 1 (by simp)
  cases this
/-- Equivalent's answer, by whether there is a certificate -/
theorem eqv_good (a b c : Int) (ao bo : Option Addr) (cap cap' N : Nat) (L M : List Q) (ms ns : List Int) (hf : fldR a b c L 0) (hf' : fldR a b c M 0) (hS : smR L ms true) (hS' : smR M ns true) (hN : (N : Int) = a * b * c) (d : Bool) (hd : ((∃ q, carP (lpL a b c N L) (lpL a b c N M) q ∧ ¬ Z4 q) ∧ d = true) ∨ ((¬ ∃ q, carP (lpL a b c N L) (lpL a b c N M) q ∧ ¬ Z4 q) ∧ d = false)) (W : World) (k1 : LiesO W ao L) (k2 : LiesO W bo M) : Calls Try.prog 15 #[.agg #[.int .i64 a, .int .i64 b, .int .i64 c, .slice ao L.length cap], .agg #[.int .i64 a, .int .i64 b, .int .i64 c, .slice bo M.length cap']] W fun e w' => e = .returned (.tuple #[.bool d, .int .i64 0]) ∧ Below W.heap.size W w' := by
  have hF : Fl a b c L := ⟨(fldR_ok hf).1, (fldR_ok hf).2.1, (fldR_ok hf).2.2⟩
  have hF' : Fl a b c M := ⟨(fldR_ok hf').1, (fldR_ok hf').2.1, (fldR_ok hf').2.2⟩
  have hA := AllS.num hS
  have hA' := AllS.num hS'
  obtain ⟨hX, hX48⟩ := lp_good hF hA hN
  obtain ⟨hY, -⟩ := lp_good hF' hA' hN
  have hYl : (lpL a b c N M).length = (lpL a b c N L).length := lp_same (by have := hF.n; have := hF'.n; omega)
  have hp := fld_pos1 hf
  have hp' := fld_pos1 hf'
  have cB : ∀ W : World, LiesO W ao L → LiesO W bo M → Calls Try.prog 45 #[.agg #[.int .i64 a, .int .i64 b, .int .i64 c, .slice ao L.length cap], .agg #[.int .i64 a, .int .i64 b, .int .i64 c, .slice bo M.length cap']] W fun e w' => (∃ (ao : Option Addr) (k : Nat), e = .returned (.tuple #[.slice ao ((lpL a b c N L).length * 4) k, .int .i64 0]) ∧ LiesOI w' ao (eqL (lpL a b c N L) (lpL a b c N M) (lpL a b c N L).length)) ∧ Below W.heap.size W w' := fun W j1 j2 => by
    obtain ⟨b1, o1, rfl, m1⟩ := liesO_one j1 hp
    obtain ⟨b2, o2, rfl, m2⟩ := liesO_one j2 hp'
    exact bw_ok a b c b1 o1 b2 o2 cap cap' N L M ms ns W m1 m2 hf hf' hS hS' hN
  have cC := fun (W : World) (j1 : LiesO W ao L) (j2 : LiesO W bo M) => cert_ok a b c a b c ao bo cap cap' L M _ _ W j1 j2 hX hY hYl (by omega) cB
  refine (equiv_ok a b c a b c ao bo cap cap' L M _ _ W k1 k2 cC).mono fun e w' ⟨⟨B, hB, hc⟩, hw⟩ => ⟨?_, hw⟩
  rcases hc with ⟨rfl, he⟩ | ⟨hne, he⟩
  · rcases hd with ⟨⟨q, h1, h2⟩, rfl⟩ | ⟨_, rfl⟩
    · exact absurd (hB.nil hX hY hYl h1) h2
    · exact he
  · rcases hd with ⟨_, rfl⟩ | ⟨h, rfl⟩
    · exact he
    · cases B with
      | nil => exact absurd rfl hne
      | cons q B => exact absurd ⟨q, hB.car hX hY hYl List.mem_cons_self, hB.ne⟩ h
theorem eqv_bad (a b c a' b' c' r : Int) (ao bo : Option Addr) (cap cap' : Nat) (L M : List Q) (h0 : r ≠ 0) (cB : ∀ W : World, LiesO W ao L → LiesO W bo M → Calls Try.prog 45 #[.agg #[.int .i64 a, .int .i64 b, .int .i64 c, .slice ao L.length cap], .agg #[.int .i64 a', .int .i64 b', .int .i64 c', .slice bo M.length cap']] W fun e w' => e = .returned (.tuple #[.slice none 0 0, .int .i64 r]) ∧ Below W.heap.size W w') (W : World) (k1 : LiesO W ao L) (k2 : LiesO W bo M) : Calls Try.prog 15 #[.agg #[.int .i64 a, .int .i64 b, .int .i64 c, .slice ao L.length cap], .agg #[.int .i64 a', .int .i64 b', .int .i64 c', .slice bo M.length cap']] W fun e w' => e = .returned (.tuple #[.bool false, .int .i64 r]) ∧ Below W.heap.size W w' :=
  equiv_err a b c a' b' c' r ao bo cap cap' L M W k1 k2 (fun W j1 j2 => cert_err a b c a' b' c' r ao bo cap cap' L M W j1 j2 h0 cB)

theorem bw_at (a b c : Int) (ao bo : Option Addr) (cap cap' N : Nat) (L M : List Q) (ms ns : List Int) (hf : fldR a b c L 0) (hf' : fldR a b c M 0) (hS : smR L ms true) (hS' : smR M ns true) (hN : (N : Int) = a * b * c) (W : World) (j1 : LiesO W ao L) (j2 : LiesO W bo M) : Calls Try.prog 45 #[.agg #[.int .i64 a, .int .i64 b, .int .i64 c, .slice ao L.length cap], .agg #[.int .i64 a, .int .i64 b, .int .i64 c, .slice bo M.length cap']] W fun e w' => (∃ (ao : Option Addr) (k : Nat), e = .returned (.tuple #[.slice ao ((lpL a b c N L).length * 4) k, .int .i64 0]) ∧ LiesOI w' ao (eqL (lpL a b c N L) (lpL a b c N M) (lpL a b c N L).length)) ∧ Below W.heap.size W w' := by
  obtain ⟨b1, o1, rfl, m1⟩ := liesO_one j1 (fld_pos1 hf)
  obtain ⟨b2, o2, rfl, m2⟩ := liesO_one j2 (fld_pos1 hf')
  exact bw_ok a b c b1 o1 b2 o2 cap cap' N L M ms ns W m1 m2 hf hf' hS hS' hN
/-- a certificate that is accepted -/
def Ce (X Y : List Q) (q : Q) : Prop := carP X Y q ∧ ¬ Z4 q ∧ B4 q 1000
theorem B4.up {q : Q} (h : B4 q 1) : B4 q 1000 := by
  obtain ⟨h1, h2, h3, h4⟩ := h
  constructor <;> omega
theorem cert_yes (a b c : Int) (ao bo : Option Addr) (cap cap' N : Nat) (L M : List Q) (ms ns : List Int) (hf : fldR a b c L 0) (hf' : fldR a b c M 0) (hS : smR L ms true) (hS' : smR M ns true) (hN : (N : Int) = a * b * c) (hd : ∃ q, carP (lpL a b c N L) (lpL a b c N M) q ∧ ¬ Z4 q) (W : World) (k1 : LiesO W ao L) (k2 : LiesO W bo M) : Calls Try.prog 29 #[.agg #[.int .i64 a, .int .i64 b, .int .i64 c, .slice ao L.length cap], .agg #[.int .i64 a, .int .i64 b, .int .i64 c, .slice bo M.length cap']] W fun e w' => (∃ q : Q, e = .returned (.tuple #[.agg #[.int .i64 q.a, .int .i64 q.b, .int .i64 q.c, .int .i64 q.d], .bool true, .int .i64 0]) ∧ Hid (Ce (lpL a b c N L) (lpL a b c N M) q)) ∧ Below W.heap.size W w' := by
  have hF : Fl a b c L := ⟨(fldR_ok hf).1, (fldR_ok hf).2.1, (fldR_ok hf).2.2⟩
  have hF' : Fl a b c M := ⟨(fldR_ok hf').1, (fldR_ok hf').2.1, (fldR_ok hf').2.2⟩
  obtain ⟨hX, hX48⟩ := lp_good hF (AllS.num hS) hN
  obtain ⟨hY, -⟩ := lp_good hF' (AllS.num hS') hN
  have hYl : (lpL a b c N M).length = (lpL a b c N L).length := lp_same (by have := hF.n; have := hF'.n; omega)
  refine (cert_ok a b c a b c ao bo cap cap' L M _ _ W k1 k2 hX hY hYl (by omega) (fun W j1 j2 => bw_at a b c ao bo cap cap' N L M ms ns hf hf' hS hS' hN W j1 j2)).mono fun e w' ⟨⟨B, hB, hc⟩, hw⟩ => ⟨?_, hw⟩
  rcases hc with ⟨rfl, _⟩ | ⟨q, B', rfl, he⟩
  · obtain ⟨q, h1, h2⟩ := hd
    exact absurd (hB.nil hX hY hYl h1) h2
  · refine ⟨q, he, Lib.hid ⟨hB.car hX hY hYl List.mem_cons_self, hB.ne, ?_⟩⟩
    exact (hB.le hX hY hYl (BasE.all_ne hB) q List.mem_cons_self).up
theorem cert_not (a b c : Int) (ao bo : Option Addr) (cap cap' N : Nat) (L M : List Q) (ms ns : List Int) (hf : fldR a b c L 0) (hf' : fldR a b c M 0) (hS : smR L ms true) (hS' : smR M ns true) (hN : (N : Int) = a * b * c) (hd : ¬ ∃ q, carP (lpL a b c N L) (lpL a b c N M) q ∧ ¬ Z4 q) (W : World) (k1 : LiesO W ao L) (k2 : LiesO W bo M) : Calls Try.prog 29 #[.agg #[.int .i64 a, .int .i64 b, .int .i64 c, .slice ao L.length cap], .agg #[.int .i64 a, .int .i64 b, .int .i64 c, .slice bo M.length cap']] W fun e w' => e = .returned (NoCe 0) ∧ Below W.heap.size W w' := by
  have hF : Fl a b c L := ⟨(fldR_ok hf).1, (fldR_ok hf).2.1, (fldR_ok hf).2.2⟩
  have hF' : Fl a b c M := ⟨(fldR_ok hf').1, (fldR_ok hf').2.1, (fldR_ok hf').2.2⟩
  obtain ⟨hX, hX48⟩ := lp_good hF (AllS.num hS) hN
  obtain ⟨hY, -⟩ := lp_good hF' (AllS.num hS') hN
  have hYl : (lpL a b c N M).length = (lpL a b c N L).length := lp_same (by have := hF.n; have := hF'.n; omega)
  refine (cert_ok a b c a b c ao bo cap cap' L M _ _ W k1 k2 hX hY hYl (by omega) (fun W j1 j2 => bw_at a b c ao bo cap cap' N L M ms ns hf hf' hS hS' hN W j1 j2)).mono fun e w' ⟨⟨B, hB, hc⟩, hw⟩ => ⟨?_, hw⟩
  rcases hc with ⟨rfl, he⟩ | ⟨q, B', rfl, he⟩
  · exact he
  · exact absurd ⟨q, hB.car hX hY hYl List.mem_cons_self, hB.ne⟩ hd
/-- an accepted certificate, at Check -/
theorem ck_yes (a b c : Int) (ao bo : Option Addr) (cap cap' N : Nat) (L M : List Q) (ms ns : List Int) (hf : fldR a b c L 0) (hf' : fldR a b c M 0) (hS : smR L ms true) (hS' : smR M ns true) (hN : (N : Int) = a * b * c) (W : World) (q : Q) (h : Ce (lpL a b c N L) (lpL a b c N M) q) (k1 : LiesO W ao L) (k2 : LiesO W bo M) : Calls Try.prog 17 #[.agg #[.int .i64 a, .int .i64 b, .int .i64 c, .slice ao L.length cap], .agg #[.int .i64 a, .int .i64 b, .int .i64 c, .slice bo M.length cap'], .agg #[.int .i64 q.a, .int .i64 q.b, .int .i64 q.c, .int .i64 q.d]] W fun e w' => e = .returned (.int .i64 0) ∧ Below W.heap.size W w' := by
  obtain ⟨b1, o1, rfl, m1⟩ := liesO_one k1 (fld_pos1 hf)
  obtain ⟨b2, o2, rfl, m2⟩ := liesO_one k2 (fld_pos1 hf')
  exact gaCk_ok a b c b1 o1 b2 o2 cap cap' N L M ms ns q 0 W m1 m2 hf hf' hS hS' hN (.inr (.inr (.inl ⟨h.2.2, h.2.1, h.1, rfl⟩)))
/-- Freedom, on a field of small units -/
theorem free_at (a b c : Int) (ao : Option Addr) (cap N : Nat) (L : List Q) (ms : List Int) (hf : fldR a b c L 0) (hS : smR L ms true) (hN : (N : Int) = a * b * c) (W : World) (k1 : LiesO W ao L) : Calls Try.prog 27 #[.agg #[.int .i64 a, .int .i64 b, .int .i64 c, .slice ao L.length cap]] W fun e w' => (∃ B, BasE (lpL a b c N L) (lpL a b c N L) B ∧ e = .returned (.tuple #[.int .i64 (B.length : Int), .int .i64 0])) ∧ Below W.heap.size W w' := by
  have hF : Fl a b c L := ⟨(fldR_ok hf).1, (fldR_ok hf).2.1, (fldR_ok hf).2.2⟩
  obtain ⟨hX, hX48⟩ := lp_good hF (AllS.num hS) hN
  exact free_ok a b c ao cap L _ W k1 hX (by omega) (fun W j1 j2 => bw_at a b c ao ao cap cap N L L ms ms hf hf hS hS hN W j1 j2)
theorem BasE.one {X Y B B' : List Q} (h : BasE X Y B) (h' : BasE X Y B') : B.length = B'.length := (h.2.len).symm.trans h'.2.len
/-- Freedom's answer is one, whatever the field; 'no' stands for 'the call does not return' -/
theorem free_det (a b c : Int) (ao : Option Addr) (cap : Nat) (L : List Q) (hlen : L.length ≤ 1000000) : ∃ n r : Int, ∀ W : World, LiesO W ao L → Calls Try.prog 27 #[.agg #[.int .i64 a, .int .i64 b, .int .i64 c, .slice ao L.length cap]] W fun e w' => e = .returned (.tuple #[.int .i64 n, .int .i64 r]) ∧ Below W.heap.size W w' := by
  rcases bw_ans a b c a b c ao ao cap cap L L hlen hlen with ⟨r, h0, hb⟩ | ⟨N, ms, ns, -, hf, -, hS, -, hN⟩
  · exact ⟨0, r, fun W k1 => free_err a b c r ao cap L W k1 h0 (fun W j1 j2 => hb W j1 j2)⟩
  · by_cases hE : ∃ B, BasE (lpL a b c N L) (lpL a b c N L) B
    · obtain ⟨B0, h0⟩ := hE
      exact ⟨B0.length, 0, fun W k1 => (free_at a b c ao cap N L ms hf hS hN W k1).mono fun e w' ⟨⟨B, hB, he⟩, hw⟩ => ⟨by rw [he, hB.one h0], hw⟩⟩
    · exact ⟨0, 1, fun W k1 => (free_at a b c ao cap N L ms hf hS hN W k1).mono fun e w' ⟨⟨B, hB, he⟩, hw⟩ => absurd ⟨B, hB⟩ hE⟩
end Go.Proofs.Ytojmagooapjohaa

/- The cold field of one site, and its freedom.
Conditions: none. -/
namespace Go.Proofs.Ytojmagooapjohaa
set_option linter.unusedVariables false
set_option linter.unusedSimpArgs false
set_option maxRecDepth 1000000
open Go.RowKit
open Um Tm

set_option maxHeartbeats 1600000 in
theorem cold_any (w : World) : Calls Try.prog 28 #[] w fun e w' => (∃ g : Nat, e = .returned (.agg #[.int .i64 1, .int .i64 1, .int .i64 1, .slice (some ⟨g, 0, none⟩) 3 3]) ∧ Lies w' g 0 [one, one, one]) ∧ Below w.heap.size w w' := by
  go_enter Try.func28, Try.ntmps28
  go_wp2
  refine bodyPost_ret (v := .agg #[.int .i64 1, .int .i64 1, .int .i64 1, .slice (some ⟨w.heap.size + 1 + 1, 0, none⟩) 3 3]) ?_ rfl ⟨⟨_, rfl, ?_⟩, ?_⟩
  · simp [results, Try.results28, go_sem]
  · have h := lies3n (w := (w.alloc (.cells #[.int .i64 1, .int .i64 1, .int .i64 1, .slice (some ⟨w.heap.size + 1 + 1, 0, none⟩) 3 3] 25)).alloc (.cells #[.int .i64 1, .int .i64 0, .int .i64 0, .int .i64 0, .int .i64 1] 36)) (T := 36) (x := one) (y := one) (z := one)
    simpa [one] using h
  · repeat (first | (with_reducible exact Below.refl _ _) | (with_reducible refine Below.setCell ?_ ?_ _) | (with_reducible refine Below.drew ?_) | (with_reducible refine Below.alloc ?_ ?_ _) | omega | (simp <;> omega))
theorem free_cold (W : World) (g : Nat) (h : Lies W g 0 [one, one, one]) : Calls Try.prog 27 #[.agg #[.int .i64 1, .int .i64 1, .int .i64 1, .slice (some ⟨g, 0, none⟩) 3 3]] W fun e w' => e = .returned (.tuple #[.int .i64 4, .int .i64 0]) ∧ Below W.heap.size W w' := by
  obtain ⟨ns, hq⟩ := smR_all cold_s
  have hf : fldR 1 1 1 [one, one, one] 0 := fldR_small sz111 (by decide) cold_s
  have cB : ∀ W : World, LiesO W (some ⟨g, 0, none⟩) [one, one, one] → LiesO W (some ⟨g, 0, none⟩) [one, one, one] → Calls Try.prog 45 #[.agg #[.int .i64 1, .int .i64 1, .int .i64 1, .slice (some ⟨g, 0, none⟩) 3 3], .agg #[.int .i64 1, .int .i64 1, .int .i64 1, .slice (some ⟨g, 0, none⟩) 3 3]] W fun e w' => (∃ (ao : Option Addr) (k : Nat), e = .returned (.tuple #[.slice ao ([one, one, one].length * 4) k, .int .i64 0]) ∧ LiesOI w' ao (eqL [one, one, one] [one, one, one] [one, one, one].length)) ∧ Below W.heap.size W w' := fun W k1 _ => by
    obtain ⟨b, o, e1, m1⟩ := liesO_one k1 (by decide)
    cases e1
    have := bw_ok 1 1 1 g 0 g 0 3 3 1 [one, one, one] [one, one, one] ns ns W m1 m1 hf hf hq hq (by decide)
    rw [cold_lp] at this
    exact this
  refine (free_ok 1 1 1 (some ⟨g, 0, none⟩) 3 [one, one, one] [one, one, one] W (.inr ⟨g, 0, rfl, h⟩) cold_s (by decide) cB).mono fun e w' ⟨⟨B, hB, he⟩, hw⟩ => ⟨?_, hw⟩
  rw [he, free_all cold_s hB cold_car]
  rfl
end Go.Proofs.Ytojmagooapjohaa

/- The same unit at each site, and which lists have small numbers, as the program and the law find it.
Conditions: those written at each theorem. -/
namespace Go.Proofs.Ytojmagooapjohaa
set_option linter.unusedVariables false
set_option linter.unusedSimpArgs false
set_option maxRecDepth 1000000
open Go.RowKit
open Um Tm

set_option maxHeartbeats 1600000 in
theorem spr_ok (a b c : Int) (bl off cap N : Nat) (L : List Q) (x : Q) (w : World) (h : Lies w bl off L) (hF : fldR a b c L 0) (hN : (N : Int) = a * b * c) (hx : Sm2 x) : Calls Try.prog 14 #[.agg #[.int .i64 a, .int .i64 b, .int .i64 c, .slice (some ⟨bl, off, none⟩) L.length cap], .agg #[.int .i64 x.a, .int .i64 x.b, .int .i64 x.c, .int .i64 x.d, .int .i64 x.n]] w fun e w' => (∃ g k : Nat, e = .returned (.tuple #[.slice (some ⟨g, 0, none⟩) N k, .int .i64 0]) ∧ LBox w' g (List.replicate N x) ∧ w.heap.size ≤ g) ∧ Below w.heap.size w w' := by
  have hz := (fldR_ok hF).1
  have hn := (fldR_ok hF).2.1
  obtain ⟨-, -, p3, -⟩ := mul_rng hz.a1 hz.a4 hz.b1 hz.b4 hz.c1 hz.c4
  have hp := hz.p
  have c1 := fun (W : World) (h : Lies W bl off L) => validateF_any a b c 0 (some ⟨bl, off, none⟩) cap L W (.inr ⟨bl, off, rfl, h⟩) hF (by omega)
  have c2 := fun W : World => validate_ok x W hx.1
  have c3 := fun (W : World) (g : Nat) (h : Lies W g 0 [x]) => repeat_any g x N W h (by omega) (by omega)
  have c4 : ∀ (W : World) (g : Nat), Lies W g 0 (List.replicate N x) → Calls Try.prog 40 #[.slice (some ⟨g, 0, none⟩) N N] W fun e w' => e = .returned (.tuple #[.slice (some ⟨g, 0, none⟩) N N, .int .i64 0]) ∧ Below W.heap.size W w' := fun W g h => by
    have hl : (List.replicate N x).length = N := List.length_replicate
    have := limited_any g 0 N (List.replicate N x) W h (by omega)
    rw [hl] at this
    exact this.mono fun e w' ⟨k, hw⟩ => ⟨by
      rcases k with ⟨_, k⟩ | ⟨k, _⟩
      · exact k
      · exact absurd (fun i y hy => by
          have := List.mem_of_getElem? hy
          rw [(List.mem_replicate.1 this).2]; have := hx.2; omega) k, hw⟩
  have H := Lib.hid h
  have hq : ((L.length : Int)).tdiv 3 = (N : Int) := by rw [Int.tdiv_eq_ediv_of_nonneg (by omega)]; omega
  have hq2 : IntKind.i64.wrap ((L.length : Int).tdiv 3) = (N : Int) := by rw [hq, IntKind.wrap_i64]; omega
  have hq3 : IntKind.i64.wrap ((L.length : Int) / 3) = (N : Int) := by rw [IntKind.wrap_i64]; omega
  have hq4 : (L.length : Int) / 3 = (N : Int) := by omega
  have hq6 : wrap64 (N : Int) = (N : Int) := by unfold wrap64; omega
  have hq5 : wrap64 ((L.length : Int).tdiv 3) = (N : Int) := by rw [hq, wrap64]; omega
  clear h hF hN hx hz hn p3 hp
  go_enter Try.func14, Try.ntmps14
  go_wp2_with (fail)
  refine (c1 _ (H.out.later ba2)).mono ?_
  rintro e w1 ⟨rfl, hw1⟩
  have B1 := Lib.hid (bel2 hw1)
  have hc1 := Tail.cells hw1
  have zw10 := Nat.lt_of_lt_of_le (n := w.heap.size) (by simp <;> omega) hw1.size; have zw11 := Nat.lt_of_lt_of_le (n := w.heap.size + 1) (by simp <;> omega) hw1.size
  clear hw1 c1
  go_wp2_with (fail)
  refine (c2 _).mono ?_
  rintro e w2 ⟨rfl, hw2⟩
  have B2 := Lib.hid (B1.out.trans (hw2.mono B1.out.size))
  have hc2 := Tail.cells hw2
  have z20 := Nat.lt_of_lt_of_le zw10 hw2.size
  have z21 := Nat.lt_of_lt_of_le zw11 hw2.size
  clear hw2 c2 B1
  go_wp2_with (fail)
  refine (c3 _ _ lies1n).mono ?_
  rintro e w3 ⟨⟨g, rfl, hk, hg⟩, hw3⟩
  have B3 := Lib.hid (B2.out.trans ((bel1 hw3).mono B2.out.size))
  have HK := Lib.hid hk
  have hg' : w.heap.size ≤ g := by simp at hg; omega
  clear hw3 c3 hk hg hc1 hc2
  go_wp2_with (fail)
  refine (c4 _ _ HK.out.lies).mono ?_
  rintro e w4 ⟨rfl, hw4⟩
  have B4 := Lib.hid (B3.out.trans (hw4.mono B3.out.size))
  have HK4 := Lib.hid (HK.out.box.later hw4)
  clear hw4 c4 B3 HK
  go_wp2
  go_ret2
  exact ⟨⟨g, N, rfl, HK4.out, hg'⟩, B4.out⟩
/-! ### small numbers -/
/-- all N are 1 or 2 -/
def N12L (G : List Q) : Prop := ∀ (i : Nat) (x : Q), G[i]? = some x → 1 ≤ x.n ∧ x.n ≤ 2
set_option maxHeartbeats 1600000 in
theorem small4_any (ao : Option Addr) (cap : Nat) (G : List Q) (d : Bool) (w : World) (h : LiesO w ao G) (hlen : G.length ≤ 1000000) (hd : (N12L G ∧ d = true) ∨ (¬ N12L G ∧ d = false)) : Calls Try.prog 10 #[.slice ao G.length cap] w fun e w' => e = .returned (.bool d) ∧ Below w.heap.size w w' := by
  have H := Lib.hid h
  have HD := Lib.hid hd
  clear h hd
  go_enter Try.func10, Try.ntmps10
  go_wp2
  go_loopw [3] (fun q wr => ∃ i : Nat, i ≤ G.length ∧ q = .int .i64 i ∧ Hid (∀ (j : Nat) (x : Q), j < i → G[j]? = some x → 1 ≤ x.n ∧ x.n ≤ 2) ∧ Hid (Below w.heap.size w wr)) (fun q _ => G.length - (intOf q).toNat)
  case atStart => exact ⟨0, by omega, rfl, Lib.hid (fun j x hj => by omega), Lib.hid (Below.refl _ _)⟩
  case round =>
    obtain ⟨i, hi, rfl, HS, HB⟩ := hrel
    by_cases hlt : i < G.length
    · have ii : (i : Int) < (G.length : Int) := by omega
      have hx := List.getElem?_eq_getElem hlt
      generalize G[i] = x at *
      obtain ⟨bl, off, rfl, hl⟩ : ∃ b f, ao = some ⟨b, f, none⟩ ∧ Lies w b f G := by
        rcases H.out with h | h
        · rw [h] at hlt; exact absurd hlt (by simp)
        · exact h
      obtain ⟨c0, c1, c2, c3, c4⟩ := (hl.later HB.out) i x hx
      have lb := World.block_lt_of_cell? _ _ c4
      by_cases h1 : x.n < 1
      · have hno : d = false := by
          rcases HD.out with ⟨h, _⟩ | ⟨_, h⟩
          · have := (h i x hx).1; omega
          · exact h
        have j1 : decide (x.n < 1) = true := by simpa using h1
        subst hno
        clear hx hl
        go_wp2
        go_ret
        exact ⟨rfl, HB.out⟩
      · by_cases h2 : x.n > 2
        · have hno : d = false := by
            rcases HD.out with ⟨h, _⟩ | ⟨_, h⟩
            · have := (h i x hx).2; omega
            · exact h
          subst hno
          clear hx hl
          go_wp2
          go_ret
          exact ⟨rfl, HB.out⟩
        · have HS2 : Hid (∀ (j : Nat) (x : Q), j < i + 1 → G[j]? = some x → 1 ≤ x.n ∧ x.n ≤ 2) := Lib.hid (fun j y hj hy => by
            by_cases hji : j = i
            · subst hji; rw [hx] at hy; cases hy; omega
            · exact HS.out j y (by omega) hy)
          clear hx hl
          go_wp2
          exact ⟨⟨i + 1, by omega, by go_num, HS2, HB⟩, by simp [intOf]; omega⟩
    · obtain rfl : i = G.length := by omega
      have hyes : d = true := by
        rcases HD.out with ⟨_, h⟩ | ⟨h, _⟩
        · exact h
        · exact absurd (fun j x hx => HS.out j x (List.getElem?_eq_some_iff.1 hx).1 hx) h
      subst hyes
      go_wp2
      go_ret
      exact ⟨rfl, HB.out⟩
end Go.Proofs.Ytojmagooapjohaa

/- TopGauge: a transformed field has the same traces, is equivalent and has the same freedom, and certificates are accepted, for all fields and lists of units.
Conditions: none. -/
namespace Go.Proofs.Ytojmagooapjohaa
set_option linter.unusedVariables false
set_option linter.unusedSimpArgs false
set_option maxRecDepth 1000000
open Go.ChangeShapes Go.WideShapes Go.ChangeAt Go.RowKit
open Um Tm

theorem rlT_at {w : World} {o : Option Addr} {X : List (Int × Int)} {i : Nat} {r : Int × Int} (h : LiesOI w o (rl X)) (hr : X[i]? = some r) : ∃ b f, o = some ⟨b, f, none⟩ ∧ w.cell? ⟨b, f + i * 2, none⟩ = some (.int .i64 r.1) ∧ w.cell? ⟨b, f + i * 2 + 1, none⟩ = some (.int .i64 r.2) := by
  have key : ∀ (X : List (Int × Int)) (i : Nat), X[i]? = some r → (rl X)[i * 2]? = some r.1 ∧ (rl X)[i * 2 + 1]? = some r.2 := by
    intro X
    induction X with
    | nil => intro i h; simp at h
    | cons x X ih => intro i h; cases i with
      | zero => simp at h; subst h; exact ⟨rfl, rfl⟩
      | succ i =>
        have := ih i (by simpa using h)
        have e : rl (x :: X) = x.1 :: x.2 :: rl X := rfl
        rw [e, show (i + 1) * 2 = i * 2 + 2 by omega, show i * 2 + 2 + 1 = (i * 2 + 1) + 2 by omega]
        exact this
  obtain ⟨k1, k2⟩ := key X i hr
  rcases h with h | ⟨b, f, rfl, h⟩
  · rw [h] at k1; simp at k1
  · exact ⟨b, f, rfl, h _ _ k1, h _ _ k2⟩
set_option maxHeartbeats 3200000 in
theorem tGa_l1 (a b c a' b' c' : Int) (ao bo go : Option Addr) (cap cap' gc : Nat) (L M G : List Q) (w : World) (h : 200 < L.length) : Calls Try.prog 7 #[.agg #[.int .i64 a, .int .i64 b, .int .i64 c, .slice ao L.length cap], .agg #[.int .i64 a', .int .i64 b', .int .i64 c', .slice bo M.length cap'], .slice go G.length gc] w fun e w' => e = .returned (.bool true) ∧ Below w.heap.size w w' := by
  have co := cold_any
  have cf := free_cold
  have c0 := fun W : World => long4_any a b c ao cap L true W (.inl ⟨h, rfl⟩)
  go_enter Try.func7, Try.ntmps7
  go_wp2_with (fail)
  refine (co _).mono ?_
  rintro e w1 ⟨⟨g1, rfl, hb1⟩, hw1⟩
  have bw1 : Below w.heap.size w w1 := bel2 hw1
  have F1 := Lib.hid (FW.n2a.later hw1)
  have E1 := Lib.hid (FW.n2b.later hw1)
  have HB1 := Lib.hid bw1
  have CL1 := Lib.hid hb1
  clear hb1
  clear hw1 bw1
  go_wp2_with (fail)
  refine (cf _ _ (CL1.out)).mono ?_
  rintro e w2 ⟨rfl, hw2⟩
  have bw2 : Below w1.heap.size w1 w2 := hw2
  have F2 := Lib.hid (F1.out.later bw2)
  have E2 := Lib.hid (E1.out.later bw2)
  have CL2 := Lib.hid (CL1.out.later bw2)
  have HB2 := Lib.hid (HB1.out.trans (bw2.mono HB1.out.size))
  clear hw2 bw2 F1 E1 CL1 HB1
  clear CL2
  obtain ⟨f2_0, f2_1, f2_2, f2_3, f2_4, f2_5⟩ := F2.out
  go_wp2_with (fail)
  refine (c0 _).mono ?_
  rintro e w3 ⟨rfl, hw3⟩
  clear f2_0 f2_1 f2_2 f2_3 f2_4 f2_5
  have bw3 : Below w2.heap.size w2 w3 := hw3
  have F3 := Lib.hid (F2.out.later bw3)
  have E3 := Lib.hid (E2.out.later bw3)
  have HB3 := Lib.hid (HB2.out.trans (bw3.mono HB2.out.size))
  clear hw3 bw3 F2 E2 HB2
  go_wp2
  go_ret
  exact ⟨rfl, HB3.out⟩
set_option maxHeartbeats 3200000 in
theorem tGa_l2 (a b c a' b' c' : Int) (ao bo go : Option Addr) (cap cap' gc : Nat) (L M G : List Q) (w : World) (h : L.length ≤ 200) (h2 : 200 < M.length) : Calls Try.prog 7 #[.agg #[.int .i64 a, .int .i64 b, .int .i64 c, .slice ao L.length cap], .agg #[.int .i64 a', .int .i64 b', .int .i64 c', .slice bo M.length cap'], .slice go G.length gc] w fun e w' => e = .returned (.bool true) ∧ Below w.heap.size w w' := by
  have co := cold_any
  have cf := free_cold
  have c0 := fun W : World => long4_any a b c ao cap L false W (.inr ⟨h, rfl⟩)
  have d0 := fun W : World => long4_any a' b' c' bo cap' M true W (.inl ⟨h2, rfl⟩)
  go_enter Try.func7, Try.ntmps7
  go_wp2_with (fail)
  refine (co _).mono ?_
  rintro e w1 ⟨⟨g1, rfl, hb1⟩, hw1⟩
  have bw1 : Below w.heap.size w w1 := bel2 hw1
  have F1 := Lib.hid (FW.n2a.later hw1)
  have E1 := Lib.hid (FW.n2b.later hw1)
  have HB1 := Lib.hid bw1
  have CL1 := Lib.hid hb1
  clear hb1
  clear hw1 bw1
  go_wp2_with (fail)
  refine (cf _ _ (CL1.out)).mono ?_
  rintro e w2 ⟨rfl, hw2⟩
  have bw2 : Below w1.heap.size w1 w2 := hw2
  have F2 := Lib.hid (F1.out.later bw2)
  have E2 := Lib.hid (E1.out.later bw2)
  have CL2 := Lib.hid (CL1.out.later bw2)
  have HB2 := Lib.hid (HB1.out.trans (bw2.mono HB1.out.size))
  clear hw2 bw2 F1 E1 CL1 HB1
  clear CL2
  obtain ⟨f2_0, f2_1, f2_2, f2_3, f2_4, f2_5⟩ := F2.out
  go_wp2_with (fail)
  refine (c0 _).mono ?_
  rintro e w3 ⟨rfl, hw3⟩
  clear f2_0 f2_1 f2_2 f2_3 f2_4 f2_5
  have bw3 : Below w2.heap.size w2 w3 := hw3
  have F3 := Lib.hid (F2.out.later bw3)
  have E3 := Lib.hid (E2.out.later bw3)
  have HB3 := Lib.hid (HB2.out.trans (bw3.mono HB2.out.size))
  clear hw3 bw3 F2 E2 HB2
  obtain ⟨e3_0, e3_1, e3_2, e3_3, e3_4, e3_5⟩ := E3.out
  go_wp2_with (fail)
  refine (d0 _).mono ?_
  rintro e w4 ⟨rfl, hw4⟩
  clear e3_0 e3_1 e3_2 e3_3 e3_4 e3_5
  have bw4 : Below w3.heap.size w3 w4 := hw4
  have F4 := Lib.hid (F3.out.later bw4)
  have E4 := Lib.hid (E3.out.later bw4)
  have HB4 := Lib.hid (HB3.out.trans (bw4.mono HB3.out.size))
  clear hw4 bw4 F3 E3 HB3
  go_wp2
  go_ret
  exact ⟨rfl, HB4.out⟩
set_option maxHeartbeats 3200000 in
theorem tGa_l3 (a b c a' b' c' : Int) (ao bo go : Option Addr) (cap cap' gc : Nat) (L M G : List Q) (w : World) (h : L.length ≤ 200) (h2 : M.length ≤ 200) (h3 : 100 < G.length) : Calls Try.prog 7 #[.agg #[.int .i64 a, .int .i64 b, .int .i64 c, .slice ao L.length cap], .agg #[.int .i64 a', .int .i64 b', .int .i64 c', .slice bo M.length cap'], .slice go G.length gc] w fun e w' => e = .returned (.bool true) ∧ Below w.heap.size w w' := by
  have i1 : (G.length : Int) > 100 := by omega
  have co := cold_any
  have cf := free_cold
  have c0 := fun W : World => long4_any a b c ao cap L false W (.inr ⟨h, rfl⟩)
  have d0 := fun W : World => long4_any a' b' c' bo cap' M false W (.inr ⟨h2, rfl⟩)
  go_enter Try.func7, Try.ntmps7
  go_wp2_with (fail)
  refine (co _).mono ?_
  rintro e w1 ⟨⟨g1, rfl, hb1⟩, hw1⟩
  have bw1 : Below w.heap.size w w1 := bel2 hw1
  have F1 := Lib.hid (FW.n2a.later hw1)
  have E1 := Lib.hid (FW.n2b.later hw1)
  have HB1 := Lib.hid bw1
  have CL1 := Lib.hid hb1
  clear hb1
  clear hw1 bw1
  go_wp2_with (fail)
  refine (cf _ _ (CL1.out)).mono ?_
  rintro e w2 ⟨rfl, hw2⟩
  have bw2 : Below w1.heap.size w1 w2 := hw2
  have F2 := Lib.hid (F1.out.later bw2)
  have E2 := Lib.hid (E1.out.later bw2)
  have CL2 := Lib.hid (CL1.out.later bw2)
  have HB2 := Lib.hid (HB1.out.trans (bw2.mono HB1.out.size))
  clear hw2 bw2 F1 E1 CL1 HB1
  clear CL2
  obtain ⟨f2_0, f2_1, f2_2, f2_3, f2_4, f2_5⟩ := F2.out
  go_wp2_with (fail)
  refine (c0 _).mono ?_
  rintro e w3 ⟨rfl, hw3⟩
  clear f2_0 f2_1 f2_2 f2_3 f2_4 f2_5
  have bw3 : Below w2.heap.size w2 w3 := hw3
  have F3 := Lib.hid (F2.out.later bw3)
  have E3 := Lib.hid (E2.out.later bw3)
  have HB3 := Lib.hid (HB2.out.trans (bw3.mono HB2.out.size))
  clear hw3 bw3 F2 E2 HB2
  obtain ⟨e3_0, e3_1, e3_2, e3_3, e3_4, e3_5⟩ := E3.out
  go_wp2_with (fail)
  refine (d0 _).mono ?_
  rintro e w4 ⟨rfl, hw4⟩
  clear e3_0 e3_1 e3_2 e3_3 e3_4 e3_5
  have bw4 : Below w3.heap.size w3 w4 := hw4
  have F4 := Lib.hid (F3.out.later bw4)
  have E4 := Lib.hid (E3.out.later bw4)
  have HB4 := Lib.hid (HB3.out.trans (bw4.mono HB3.out.size))
  clear hw4 bw4 F3 E3 HB3
  go_wp2
  go_ret
  exact ⟨rfl, HB4.out⟩
set_option maxHeartbeats 3200000 in
theorem tGa_l4 (a b c a' b' c' : Int) (ao bo go : Option Addr) (cap cap' gc : Nat) (L M G : List Q) (w : World) (h : L.length ≤ 200) (h2 : M.length ≤ 200) (h3 : G.length ≤ 100) (hg : LiesO w go G) (h4 : ¬ N12L G) : Calls Try.prog 7 #[.agg #[.int .i64 a, .int .i64 b, .int .i64 c, .slice ao L.length cap], .agg #[.int .i64 a', .int .i64 b', .int .i64 c', .slice bo M.length cap'], .slice go G.length gc] w fun e w' => e = .returned (.bool true) ∧ Below w.heap.size w w' := by
  have co := cold_any
  have cf := free_cold
  have c0 := fun W : World => long4_any a b c ao cap L false W (.inr ⟨h, rfl⟩)
  have d0 := fun W : World => long4_any a' b' c' bo cap' M false W (.inr ⟨h2, rfl⟩)
  have cs := fun (W : World) (h : LiesO W go G) => small4_any go gc G false W h (by omega) (.inr ⟨h4, rfl⟩)
  have i1 : ¬ (G.length : Int) > 100 := by omega
  have G0 := Lib.hid hg
  clear hg h h2 h3 h4
  go_enter Try.func7, Try.ntmps7
  go_wp2_with (fail)
  refine (co _).mono ?_
  rintro e w1 ⟨⟨g1, rfl, hb1⟩, hw1⟩
  have bw1 : Below w.heap.size w w1 := bel2 hw1
  have F1 := Lib.hid (FW.n2a.later hw1)
  have E1 := Lib.hid (FW.n2b.later hw1)
  have G1 := Lib.hid (G0.out.later bw1)
  have HB1 := Lib.hid bw1
  have CL1 := Lib.hid hb1
  clear hb1
  clear hw1 bw1 G0
  go_wp2_with (fail)
  refine (cf _ _ (CL1.out)).mono ?_
  rintro e w2 ⟨rfl, hw2⟩
  have bw2 : Below w1.heap.size w1 w2 := hw2
  have G2 := Lib.hid (G1.out.later bw2)
  have F2 := Lib.hid (F1.out.later bw2)
  have E2 := Lib.hid (E1.out.later bw2)
  have CL2 := Lib.hid (CL1.out.later bw2)
  have HB2 := Lib.hid (HB1.out.trans (bw2.mono HB1.out.size))
  clear hw2 bw2 G1 F1 E1 CL1 HB1
  clear CL2
  obtain ⟨f2_0, f2_1, f2_2, f2_3, f2_4, f2_5⟩ := F2.out
  go_wp2_with (fail)
  refine (c0 _).mono ?_
  rintro e w3 ⟨rfl, hw3⟩
  clear f2_0 f2_1 f2_2 f2_3 f2_4 f2_5
  have bw3 : Below w2.heap.size w2 w3 := hw3
  have G3 := Lib.hid (G2.out.later bw3)
  have F3 := Lib.hid (F2.out.later bw3)
  have E3 := Lib.hid (E2.out.later bw3)
  have HB3 := Lib.hid (HB2.out.trans (bw3.mono HB2.out.size))
  clear hw3 bw3 G2 F2 E2 HB2
  obtain ⟨e3_0, e3_1, e3_2, e3_3, e3_4, e3_5⟩ := E3.out
  go_wp2_with (fail)
  refine (d0 _).mono ?_
  rintro e w4 ⟨rfl, hw4⟩
  clear e3_0 e3_1 e3_2 e3_3 e3_4 e3_5
  have bw4 : Below w3.heap.size w3 w4 := hw4
  have G4 := Lib.hid (G3.out.later bw4)
  have F4 := Lib.hid (F3.out.later bw4)
  have E4 := Lib.hid (E3.out.later bw4)
  have HB4 := Lib.hid (HB3.out.trans (bw4.mono HB3.out.size))
  clear hw4 bw4 G3 F3 E3 HB3
  go_wp2_with (fail)
  refine (cs _ (G4.out)).mono ?_
  rintro e w5 ⟨rfl, hw5⟩
  have bw5 : Below w4.heap.size w4 w5 := hw5
  have G5 := Lib.hid (G4.out.later bw5)
  have F5 := Lib.hid (F4.out.later bw5)
  have E5 := Lib.hid (E4.out.later bw5)
  have HB5 := Lib.hid (HB4.out.trans (bw5.mono HB4.out.size))
  clear hw5 bw5 G4 F4 E4 HB4
  go_wp2
  go_ret
  exact ⟨rfl, HB5.out⟩
set_option maxHeartbeats 6400000 in
theorem tGa_nt (a b c a' b' c' r r4 n5 r5 : Int) (ao bo go : Option Addr) (cap cap' gc : Nat) (L M G : List Q) (w : World) (k1 : L.length ≤ 200) (k2 : M.length ≤ 200) (k3 : G.length ≤ 100) (hm : LiesO w ao L) (hn : LiesO w bo M) (hg : LiesO w go G) (k4 : N12L G) (h0 : r4 ≠ 0)
    (c1 : ∀ (W : World), LiesO W ao L → LiesO W bo M → Calls Try.prog 29 #[.agg #[.int .i64 a, .int .i64 b, .int .i64 c, .slice ao L.length cap], .agg #[.int .i64 a', .int .i64 b', .int .i64 c', .slice bo M.length cap']] W fun e w' => e = .returned (.tuple #[.agg #[.int .i64 0, .int .i64 0, .int .i64 0, .int .i64 0], .bool false, .int .i64 r]) ∧ Below W.heap.size W w')
    (c2 : ∀ (W : World), LiesO W ao L → LiesO W bo M → Calls Try.prog 15 #[.agg #[.int .i64 a, .int .i64 b, .int .i64 c, .slice ao L.length cap], .agg #[.int .i64 a', .int .i64 b', .int .i64 c', .slice bo M.length cap']] W fun e w' => e = .returned (.tuple #[.bool false, .int .i64 r]) ∧ Below W.heap.size W w')
    (c4 : ∀ (W : World), LiesO W ao L → LiesO W go G → Calls Try.prog 13 #[.agg #[.int .i64 a, .int .i64 b, .int .i64 c, .slice ao L.length cap], .slice go G.length gc] W fun e w' => AnyF r4 e ∧ Below W.heap.size W w')
    (c5 : ∀ (W : World), LiesO W ao L → Calls Try.prog 27 #[.agg #[.int .i64 a, .int .i64 b, .int .i64 c, .slice ao L.length cap]] W fun e w' => e = .returned (.tuple #[.int .i64 n5, .int .i64 r5]) ∧ Below W.heap.size W w') : Calls Try.prog 7 #[.agg #[.int .i64 a, .int .i64 b, .int .i64 c, .slice ao L.length cap], .agg #[.int .i64 a', .int .i64 b', .int .i64 c', .slice bo M.length cap'], .slice go G.length gc] w fun e w' => e = .returned (.bool true) ∧ Below w.heap.size w w' := by
  have co := cold_any
  have cf := free_cold
  have c0 := fun W : World => long4_any a b c ao cap L false W (.inr ⟨k1, rfl⟩)
  have d0 := fun W : World => long4_any a' b' c' bo cap' M false W (.inr ⟨k2, rfl⟩)
  have cs := fun (W : World) (h : LiesO W go G) => small4_any go gc G true W h (by omega) (.inl ⟨k4, rfl⟩)
  have i1 : ¬ (G.length : Int) > 100 := by omega
  have H0 := Lib.hid hm
  have K0 := Lib.hid hn
  have G0 := Lib.hid hg
  clear hm hn hg k1 k2 k3 k4
  have t0 : (r4 != 0) = true := by simpa using h0
  clear h0
  have t1 : (r != r) = false := by simp
  go_enter Try.func7, Try.ntmps7
  go_wp2_with (fail)
  refine (co _).mono ?_
  rintro e w1 ⟨⟨g1, rfl, hb1⟩, hw1⟩
  have bw1 : Below w.heap.size w w1 := bel2 hw1
  have F1 := Lib.hid (FW.n2a.later hw1)
  have E1 := Lib.hid (FW.n2b.later hw1)
  have H1 := Lib.hid (H0.out.later bw1)
  have K1 := Lib.hid (K0.out.later bw1)
  have G1 := Lib.hid (G0.out.later bw1)
  have HB1 := Lib.hid bw1
  have CL1 := Lib.hid hb1
  clear hb1
  clear hw1 bw1 H0 K0 G0
  go_wp2_with (fail)
  refine (cf _ _ (CL1.out)).mono ?_
  rintro e w2 ⟨rfl, hw2⟩
  have bw2 : Below w1.heap.size w1 w2 := hw2
  have H2 := Lib.hid (H1.out.later bw2)
  have K2 := Lib.hid (K1.out.later bw2)
  have G2 := Lib.hid (G1.out.later bw2)
  have F2 := Lib.hid (F1.out.later bw2)
  have E2 := Lib.hid (E1.out.later bw2)
  have CL2 := Lib.hid (CL1.out.later bw2)
  have HB2 := Lib.hid (HB1.out.trans (bw2.mono HB1.out.size))
  clear hw2 bw2 H1 K1 G1 F1 E1 CL1 HB1
  clear CL2
  obtain ⟨f2_0, f2_1, f2_2, f2_3, f2_4, f2_5⟩ := F2.out
  go_wp2_with (fail)
  refine (c0 _).mono ?_
  rintro e w3 ⟨rfl, hw3⟩
  clear f2_0 f2_1 f2_2 f2_3 f2_4 f2_5
  have bw3 : Below w2.heap.size w2 w3 := hw3
  have H3 := Lib.hid (H2.out.later bw3)
  have K3 := Lib.hid (K2.out.later bw3)
  have G3 := Lib.hid (G2.out.later bw3)
  have F3 := Lib.hid (F2.out.later bw3)
  have E3 := Lib.hid (E2.out.later bw3)
  have HB3 := Lib.hid (HB2.out.trans (bw3.mono HB2.out.size))
  clear hw3 bw3 H2 K2 G2 F2 E2 HB2
  obtain ⟨e3_0, e3_1, e3_2, e3_3, e3_4, e3_5⟩ := E3.out
  go_wp2_with (fail)
  refine (d0 _).mono ?_
  rintro e w4 ⟨rfl, hw4⟩
  clear e3_0 e3_1 e3_2 e3_3 e3_4 e3_5
  have bw4 : Below w3.heap.size w3 w4 := hw4
  have H4 := Lib.hid (H3.out.later bw4)
  have K4 := Lib.hid (K3.out.later bw4)
  have G4 := Lib.hid (G3.out.later bw4)
  have F4 := Lib.hid (F3.out.later bw4)
  have E4 := Lib.hid (E3.out.later bw4)
  have HB4 := Lib.hid (HB3.out.trans (bw4.mono HB3.out.size))
  clear hw4 bw4 H3 K3 G3 F3 E3 HB3
  go_wp2_with (fail)
  refine (cs _ (G4.out)).mono ?_
  rintro e w5 ⟨rfl, hw5⟩
  have bw5 : Below w4.heap.size w4 w5 := hw5
  have H5 := Lib.hid (H4.out.later bw5)
  have K5 := Lib.hid (K4.out.later bw5)
  have G5 := Lib.hid (G4.out.later bw5)
  have F5 := Lib.hid (F4.out.later bw5)
  have E5 := Lib.hid (E4.out.later bw5)
  have HB5 := Lib.hid (HB4.out.trans (bw5.mono HB4.out.size))
  clear hw5 bw5 H4 K4 G4 F4 E4 HB4
  obtain ⟨f5_0, f5_1, f5_2, f5_3, f5_4, f5_5⟩ := F5.out
  obtain ⟨e5_0, e5_1, e5_2, e5_3, e5_4, e5_5⟩ := E5.out
  go_wp2_with (fail)
  refine (c1 _ (H5.out) (K5.out)).mono ?_
  rintro e w6 ⟨rfl, hw6⟩
  clear f5_0 f5_1 f5_2 f5_3 f5_4 f5_5 e5_0 e5_1 e5_2 e5_3 e5_4 e5_5
  have bw6 : Below w5.heap.size w5 w6 := hw6
  have H6 := Lib.hid (H5.out.later bw6)
  have K6 := Lib.hid (K5.out.later bw6)
  have G6 := Lib.hid (G5.out.later bw6)
  have F6 := Lib.hid (F5.out.later bw6)
  have E6 := Lib.hid (E5.out.later bw6)
  have HB6 := Lib.hid (HB5.out.trans (bw6.mono HB5.out.size))
  clear hw6 bw6 H5 K5 G5 F5 E5 HB5
  obtain ⟨f6_0, f6_1, f6_2, f6_3, f6_4, f6_5⟩ := F6.out
  obtain ⟨e6_0, e6_1, e6_2, e6_3, e6_4, e6_5⟩ := E6.out
  go_wp2_with (fail)
  refine (c2 _ (H6.out.later ba1) (K6.out.later ba1)).mono ?_
  rintro e w7 ⟨rfl, hw7⟩
  clear f6_0 f6_1 f6_2 f6_3 f6_4 f6_5 e6_0 e6_1 e6_2 e6_3 e6_4 e6_5
  have bw7 : Below w6.heap.size w6 w7 := bel1 hw7
  have H7 := Lib.hid (H6.out.later bw7)
  have K7 := Lib.hid (K6.out.later bw7)
  have G7 := Lib.hid (G6.out.later bw7)
  have F7 := Lib.hid (F6.out.later bw7)
  have E7 := Lib.hid (E6.out.later bw7)
  have HB7 := Lib.hid (HB6.out.trans (bw7.mono HB6.out.size))
  clear hw7 bw7 H6 K6 G6 F6 E6 HB6
  obtain ⟨f7_0, f7_1, f7_2, f7_3, f7_4, f7_5⟩ := F7.out
  go_wp2_with (fail)
  refine (c4 _ (H7.out) (G7.out)).mono ?_
  rintro e w8 ⟨⟨x4, y4, z4, s4, m4, j4, rfl⟩, hw8⟩
  clear f7_0 f7_1 f7_2 f7_3 f7_4 f7_5
  have bw8 : Below w7.heap.size w7 w8 := hw8
  have H8 := Lib.hid (H7.out.later bw8)
  have K8 := Lib.hid (K7.out.later bw8)
  have G8 := Lib.hid (G7.out.later bw8)
  have F8 := Lib.hid (F7.out.later bw8)
  have E8 := Lib.hid (E7.out.later bw8)
  have HB8 := Lib.hid (HB7.out.trans (bw8.mono HB7.out.size))
  clear hw8 bw8 H7 K7 G7 F7 E7 HB7
  obtain ⟨f8_0, f8_1, f8_2, f8_3, f8_4, f8_5⟩ := F8.out
  go_wp2_with (fail)
  refine (c5 _ (H8.out.later ba1)).mono ?_
  rintro e w9 ⟨rfl, hw9⟩
  clear f8_0 f8_1 f8_2 f8_3 f8_4 f8_5
  have bw9 : Below w8.heap.size w8 w9 := bel1 hw9
  have H9 := Lib.hid (H8.out.later bw9)
  have K9 := Lib.hid (K8.out.later bw9)
  have G9 := Lib.hid (G8.out.later bw9)
  have F9 := Lib.hid (F8.out.later bw9)
  have E9 := Lib.hid (E8.out.later bw9)
  have HB9 := Lib.hid (HB8.out.trans (bw9.mono HB8.out.size))
  clear hw9 bw9 H8 K8 G8 F8 E8 HB8
  go_wp2
  go_ret
  exact ⟨rfl, HB9.out⟩
set_option maxHeartbeats 6400000 in
theorem tGa_nf (a b c a' b' c' r n5 r5 : Int) (ao bo go : Option Addr) (cap cap' gc : Nat) (L M G : List Q) (w : World) (k1 : L.length ≤ 200) (k2 : M.length ≤ 200) (k3 : G.length ≤ 100) (hm : LiesO w ao L) (hn : LiesO w bo M) (hg : LiesO w go G) (k4 : N12L G) (h0 : r5 ≠ 0)
    (c1 : ∀ (W : World), LiesO W ao L → LiesO W bo M → Calls Try.prog 29 #[.agg #[.int .i64 a, .int .i64 b, .int .i64 c, .slice ao L.length cap], .agg #[.int .i64 a', .int .i64 b', .int .i64 c', .slice bo M.length cap']] W fun e w' => e = .returned (.tuple #[.agg #[.int .i64 0, .int .i64 0, .int .i64 0, .int .i64 0], .bool false, .int .i64 r]) ∧ Below W.heap.size W w')
    (c2 : ∀ (W : World), LiesO W ao L → LiesO W bo M → Calls Try.prog 15 #[.agg #[.int .i64 a, .int .i64 b, .int .i64 c, .slice ao L.length cap], .agg #[.int .i64 a', .int .i64 b', .int .i64 c', .slice bo M.length cap']] W fun e w' => e = .returned (.tuple #[.bool false, .int .i64 r]) ∧ Below W.heap.size W w')
    (c4 : ∀ (W : World), LiesO W ao L → LiesO W go G → Calls Try.prog 13 #[.agg #[.int .i64 a, .int .i64 b, .int .i64 c, .slice ao L.length cap], .slice go G.length gc] W fun e w' => AnyF 0 e ∧ Below W.heap.size W w')
    (c5 : ∀ (W : World), LiesO W ao L → Calls Try.prog 27 #[.agg #[.int .i64 a, .int .i64 b, .int .i64 c, .slice ao L.length cap]] W fun e w' => e = .returned (.tuple #[.int .i64 n5, .int .i64 r5]) ∧ Below W.heap.size W w') : Calls Try.prog 7 #[.agg #[.int .i64 a, .int .i64 b, .int .i64 c, .slice ao L.length cap], .agg #[.int .i64 a', .int .i64 b', .int .i64 c', .slice bo M.length cap'], .slice go G.length gc] w fun e w' => e = .returned (.bool true) ∧ Below w.heap.size w w' := by
  have co := cold_any
  have cf := free_cold
  have c0 := fun W : World => long4_any a b c ao cap L false W (.inr ⟨k1, rfl⟩)
  have d0 := fun W : World => long4_any a' b' c' bo cap' M false W (.inr ⟨k2, rfl⟩)
  have cs := fun (W : World) (h : LiesO W go G) => small4_any go gc G true W h (by omega) (.inl ⟨k4, rfl⟩)
  have i1 : ¬ (G.length : Int) > 100 := by omega
  have H0 := Lib.hid hm
  have K0 := Lib.hid hn
  have G0 := Lib.hid hg
  clear hm hn hg k1 k2 k3 k4
  have t0 : (r5 != 0) = true := by simpa using h0
  clear h0
  have t1 : (r != r) = false := by simp
  go_enter Try.func7, Try.ntmps7
  go_wp2_with (fail)
  refine (co _).mono ?_
  rintro e w1 ⟨⟨g1, rfl, hb1⟩, hw1⟩
  have bw1 : Below w.heap.size w w1 := bel2 hw1
  have F1 := Lib.hid (FW.n2a.later hw1)
  have E1 := Lib.hid (FW.n2b.later hw1)
  have H1 := Lib.hid (H0.out.later bw1)
  have K1 := Lib.hid (K0.out.later bw1)
  have G1 := Lib.hid (G0.out.later bw1)
  have HB1 := Lib.hid bw1
  have CL1 := Lib.hid hb1
  clear hb1
  clear hw1 bw1 H0 K0 G0
  go_wp2_with (fail)
  refine (cf _ _ (CL1.out)).mono ?_
  rintro e w2 ⟨rfl, hw2⟩
  have bw2 : Below w1.heap.size w1 w2 := hw2
  have H2 := Lib.hid (H1.out.later bw2)
  have K2 := Lib.hid (K1.out.later bw2)
  have G2 := Lib.hid (G1.out.later bw2)
  have F2 := Lib.hid (F1.out.later bw2)
  have E2 := Lib.hid (E1.out.later bw2)
  have CL2 := Lib.hid (CL1.out.later bw2)
  have HB2 := Lib.hid (HB1.out.trans (bw2.mono HB1.out.size))
  clear hw2 bw2 H1 K1 G1 F1 E1 CL1 HB1
  clear CL2
  obtain ⟨f2_0, f2_1, f2_2, f2_3, f2_4, f2_5⟩ := F2.out
  go_wp2_with (fail)
  refine (c0 _).mono ?_
  rintro e w3 ⟨rfl, hw3⟩
  clear f2_0 f2_1 f2_2 f2_3 f2_4 f2_5
  have bw3 : Below w2.heap.size w2 w3 := hw3
  have H3 := Lib.hid (H2.out.later bw3)
  have K3 := Lib.hid (K2.out.later bw3)
  have G3 := Lib.hid (G2.out.later bw3)
  have F3 := Lib.hid (F2.out.later bw3)
  have E3 := Lib.hid (E2.out.later bw3)
  have HB3 := Lib.hid (HB2.out.trans (bw3.mono HB2.out.size))
  clear hw3 bw3 H2 K2 G2 F2 E2 HB2
  obtain ⟨e3_0, e3_1, e3_2, e3_3, e3_4, e3_5⟩ := E3.out
  go_wp2_with (fail)
  refine (d0 _).mono ?_
  rintro e w4 ⟨rfl, hw4⟩
  clear e3_0 e3_1 e3_2 e3_3 e3_4 e3_5
  have bw4 : Below w3.heap.size w3 w4 := hw4
  have H4 := Lib.hid (H3.out.later bw4)
  have K4 := Lib.hid (K3.out.later bw4)
  have G4 := Lib.hid (G3.out.later bw4)
  have F4 := Lib.hid (F3.out.later bw4)
  have E4 := Lib.hid (E3.out.later bw4)
  have HB4 := Lib.hid (HB3.out.trans (bw4.mono HB3.out.size))
  clear hw4 bw4 H3 K3 G3 F3 E3 HB3
  go_wp2_with (fail)
  refine (cs _ (G4.out)).mono ?_
  rintro e w5 ⟨rfl, hw5⟩
  have bw5 : Below w4.heap.size w4 w5 := hw5
  have H5 := Lib.hid (H4.out.later bw5)
  have K5 := Lib.hid (K4.out.later bw5)
  have G5 := Lib.hid (G4.out.later bw5)
  have F5 := Lib.hid (F4.out.later bw5)
  have E5 := Lib.hid (E4.out.later bw5)
  have HB5 := Lib.hid (HB4.out.trans (bw5.mono HB4.out.size))
  clear hw5 bw5 H4 K4 G4 F4 E4 HB4
  obtain ⟨f5_0, f5_1, f5_2, f5_3, f5_4, f5_5⟩ := F5.out
  obtain ⟨e5_0, e5_1, e5_2, e5_3, e5_4, e5_5⟩ := E5.out
  go_wp2_with (fail)
  refine (c1 _ (H5.out) (K5.out)).mono ?_
  rintro e w6 ⟨rfl, hw6⟩
  clear f5_0 f5_1 f5_2 f5_3 f5_4 f5_5 e5_0 e5_1 e5_2 e5_3 e5_4 e5_5
  have bw6 : Below w5.heap.size w5 w6 := hw6
  have H6 := Lib.hid (H5.out.later bw6)
  have K6 := Lib.hid (K5.out.later bw6)
  have G6 := Lib.hid (G5.out.later bw6)
  have F6 := Lib.hid (F5.out.later bw6)
  have E6 := Lib.hid (E5.out.later bw6)
  have HB6 := Lib.hid (HB5.out.trans (bw6.mono HB5.out.size))
  clear hw6 bw6 H5 K5 G5 F5 E5 HB5
  obtain ⟨f6_0, f6_1, f6_2, f6_3, f6_4, f6_5⟩ := F6.out
  obtain ⟨e6_0, e6_1, e6_2, e6_3, e6_4, e6_5⟩ := E6.out
  go_wp2_with (fail)
  refine (c2 _ (H6.out.later ba1) (K6.out.later ba1)).mono ?_
  rintro e w7 ⟨rfl, hw7⟩
  clear f6_0 f6_1 f6_2 f6_3 f6_4 f6_5 e6_0 e6_1 e6_2 e6_3 e6_4 e6_5
  have bw7 : Below w6.heap.size w6 w7 := bel1 hw7
  have H7 := Lib.hid (H6.out.later bw7)
  have K7 := Lib.hid (K6.out.later bw7)
  have G7 := Lib.hid (G6.out.later bw7)
  have F7 := Lib.hid (F6.out.later bw7)
  have E7 := Lib.hid (E6.out.later bw7)
  have HB7 := Lib.hid (HB6.out.trans (bw7.mono HB6.out.size))
  clear hw7 bw7 H6 K6 G6 F6 E6 HB6
  obtain ⟨f7_0, f7_1, f7_2, f7_3, f7_4, f7_5⟩ := F7.out
  go_wp2_with (fail)
  refine (c4 _ (H7.out) (G7.out)).mono ?_
  rintro e w8 ⟨⟨x4, y4, z4, s4, m4, j4, rfl⟩, hw8⟩
  clear f7_0 f7_1 f7_2 f7_3 f7_4 f7_5
  have bw8 : Below w7.heap.size w7 w8 := hw8
  have H8 := Lib.hid (H7.out.later bw8)
  have K8 := Lib.hid (K7.out.later bw8)
  have G8 := Lib.hid (G7.out.later bw8)
  have F8 := Lib.hid (F7.out.later bw8)
  have E8 := Lib.hid (E7.out.later bw8)
  have HB8 := Lib.hid (HB7.out.trans (bw8.mono HB7.out.size))
  clear hw8 bw8 H7 K7 G7 F7 E7 HB7
  obtain ⟨f8_0, f8_1, f8_2, f8_3, f8_4, f8_5⟩ := F8.out
  go_wp2_with (fail)
  refine (c5 _ (H8.out.later ba1)).mono ?_
  rintro e w9 ⟨rfl, hw9⟩
  clear f8_0 f8_1 f8_2 f8_3 f8_4 f8_5
  have bw9 : Below w8.heap.size w8 w9 := bel1 hw9
  have H9 := Lib.hid (H8.out.later bw9)
  have K9 := Lib.hid (K8.out.later bw9)
  have G9 := Lib.hid (G8.out.later bw9)
  have F9 := Lib.hid (F8.out.later bw9)
  have E9 := Lib.hid (E8.out.later bw9)
  have HB9 := Lib.hid (HB8.out.trans (bw9.mono HB8.out.size))
  clear hw9 bw9 H8 K8 G8 F8 E8 HB8
  go_wp2
  go_ret
  exact ⟨rfl, HB9.out⟩
set_option maxHeartbeats 6400000 in
theorem tGa_ng (a b c a' b' c' r n5 : Int) (ao bo go : Option Addr) (cap cap' gc : Nat) (L M G : List Q) (w : World) (T : List Q) (m : Nat) (X : List (Int × Int)) (R : Q → Prop) (k1 : L.length ≤ 200) (k2 : M.length ≤ 200) (k3 : G.length ≤ 100) (hm : LiesO w ao L) (hn : LiesO w bo M) (hg : LiesO w go G) (k4 : N12L G) (hX : X.length = m) (hm48 : m ≤ 1000)
    (c1 : ∀ (W : World), LiesO W ao L → LiesO W bo M → Calls Try.prog 29 #[.agg #[.int .i64 a, .int .i64 b, .int .i64 c, .slice ao L.length cap], .agg #[.int .i64 a', .int .i64 b', .int .i64 c', .slice bo M.length cap']] W fun e w' => e = .returned (.tuple #[.agg #[.int .i64 0, .int .i64 0, .int .i64 0, .int .i64 0], .bool false, .int .i64 r]) ∧ Below W.heap.size W w')
    (c2 : ∀ (W : World), LiesO W ao L → LiesO W bo M → Calls Try.prog 15 #[.agg #[.int .i64 a, .int .i64 b, .int .i64 c, .slice ao L.length cap], .agg #[.int .i64 a', .int .i64 b', .int .i64 c', .slice bo M.length cap']] W fun e w' => e = .returned (.tuple #[.bool false, .int .i64 r]) ∧ Below W.heap.size W w')
    (c4 : ∀ (W : World), LiesO W ao L → LiesO W go G → Calls Try.prog 13 #[.agg #[.int .i64 a, .int .i64 b, .int .i64 c, .slice ao L.length cap], .slice go G.length gc] W fun e w' => RetTf a b c L.length T e w' ∧ Below W.heap.size W w')
    (c5 : ∀ (W : World), LiesO W ao L → Calls Try.prog 27 #[.agg #[.int .i64 a, .int .i64 b, .int .i64 c, .slice ao L.length cap]] W fun e w' => e = .returned (.tuple #[.int .i64 n5, .int .i64 0]) ∧ Below W.heap.size W w')
    (c6 : ∀ (W : World) (g k : Nat), LBox W g T → Calls Try.prog 27 #[.agg #[.int .i64 a, .int .i64 b, .int .i64 c, .slice (some ⟨g, 0, none⟩) L.length k]] W fun e w' => e = .returned (.tuple #[.int .i64 n5, .int .i64 0]) ∧ Below W.heap.size W w')
    (c7 : ∀ (W : World), LiesO W ao L → Calls Try.prog 30 #[.agg #[.int .i64 a, .int .i64 b, .int .i64 c, .slice ao L.length cap]] W fun e w' => (∃ (o : Option Addr) (k : Nat), e = .returned (.tuple #[.slice o m k, .int .i64 0]) ∧ LiesOI w' o (rl X)) ∧ Below W.heap.size W w')
    (c8 : ∀ (W : World) (g k : Nat), LBox W g T → Calls Try.prog 30 #[.agg #[.int .i64 a, .int .i64 b, .int .i64 c, .slice (some ⟨g, 0, none⟩) L.length k]] W fun e w' => (∃ (o : Option Addr) (k : Nat), e = .returned (.tuple #[.slice o m k, .int .i64 0]) ∧ LiesOI w' o (rl X)) ∧ Below W.heap.size W w')
    (c9 : ∀ (W : World) (g k : Nat), LiesO W ao L → LBox W g T → Calls Try.prog 29 #[.agg #[.int .i64 a, .int .i64 b, .int .i64 c, .slice ao L.length cap], .agg #[.int .i64 a, .int .i64 b, .int .i64 c, .slice (some ⟨g, 0, none⟩) L.length k]] W fun e w' => (∃ q : Q, e = .returned (.tuple #[.agg #[.int .i64 q.a, .int .i64 q.b, .int .i64 q.c, .int .i64 q.d], .bool true, .int .i64 0]) ∧ Hid (R q)) ∧ Below W.heap.size W w')
    (c10 : ∀ (W : World) (q : Q) (g k : Nat), R q → LiesO W ao L → LBox W g T → Calls Try.prog 17 #[.agg #[.int .i64 a, .int .i64 b, .int .i64 c, .slice ao L.length cap], .agg #[.int .i64 a, .int .i64 b, .int .i64 c, .slice (some ⟨g, 0, none⟩) L.length k], .agg #[.int .i64 q.a, .int .i64 q.b, .int .i64 q.c, .int .i64 q.d]] W fun e w' => e = .returned (.int .i64 0) ∧ Below W.heap.size W w') : Calls Try.prog 7 #[.agg #[.int .i64 a, .int .i64 b, .int .i64 c, .slice ao L.length cap], .agg #[.int .i64 a', .int .i64 b', .int .i64 c', .slice bo M.length cap'], .slice go G.length gc] w fun e w' => e = .returned (.bool true) ∧ Below w.heap.size w w' := by
  have co := cold_any
  have cf := free_cold
  have c0 := fun W : World => long4_any a b c ao cap L false W (.inr ⟨k1, rfl⟩)
  have d0 := fun W : World => long4_any a' b' c' bo cap' M false W (.inr ⟨k2, rfl⟩)
  have cs := fun (W : World) (h : LiesO W go G) => small4_any go gc G true W h (by omega) (.inl ⟨k4, rfl⟩)
  have i1 : ¬ (G.length : Int) > 100 := by omega
  have H0 := Lib.hid hm
  have K0 := Lib.hid hn
  have G0 := Lib.hid hg
  clear hm hn hg k1 k2 k3 k4
  have t1 : (r != r) = false := by simp
  have t2 : (n5 != n5) = false := by simp
  go_enter Try.func7, Try.ntmps7
  go_wp2_with (fail)
  refine (co _).mono ?_
  rintro e w1 ⟨⟨g1, rfl, hb1⟩, hw1⟩
  have bw1 : Below w.heap.size w w1 := bel2 hw1
  have F1 := Lib.hid (FW.n2a.later hw1)
  have E1 := Lib.hid (FW.n2b.later hw1)
  have H1 := Lib.hid (H0.out.later bw1)
  have K1 := Lib.hid (K0.out.later bw1)
  have G1 := Lib.hid (G0.out.later bw1)
  have HB1 := Lib.hid bw1
  have CL1 := Lib.hid hb1
  clear hb1
  clear hw1 bw1 H0 K0 G0
  go_wp2_with (fail)
  refine (cf _ _ (CL1.out)).mono ?_
  rintro e w2 ⟨rfl, hw2⟩
  have bw2 : Below w1.heap.size w1 w2 := hw2
  have H2 := Lib.hid (H1.out.later bw2)
  have K2 := Lib.hid (K1.out.later bw2)
  have G2 := Lib.hid (G1.out.later bw2)
  have F2 := Lib.hid (F1.out.later bw2)
  have E2 := Lib.hid (E1.out.later bw2)
  have CL2 := Lib.hid (CL1.out.later bw2)
  have HB2 := Lib.hid (HB1.out.trans (bw2.mono HB1.out.size))
  clear hw2 bw2 H1 K1 G1 F1 E1 CL1 HB1
  clear CL2
  obtain ⟨f2_0, f2_1, f2_2, f2_3, f2_4, f2_5⟩ := F2.out
  go_wp2_with (fail)
  refine (c0 _).mono ?_
  rintro e w3 ⟨rfl, hw3⟩
  clear f2_0 f2_1 f2_2 f2_3 f2_4 f2_5
  have bw3 : Below w2.heap.size w2 w3 := hw3
  have H3 := Lib.hid (H2.out.later bw3)
  have K3 := Lib.hid (K2.out.later bw3)
  have G3 := Lib.hid (G2.out.later bw3)
  have F3 := Lib.hid (F2.out.later bw3)
  have E3 := Lib.hid (E2.out.later bw3)
  have HB3 := Lib.hid (HB2.out.trans (bw3.mono HB2.out.size))
  clear hw3 bw3 H2 K2 G2 F2 E2 HB2
  obtain ⟨e3_0, e3_1, e3_2, e3_3, e3_4, e3_5⟩ := E3.out
  go_wp2_with (fail)
  refine (d0 _).mono ?_
  rintro e w4 ⟨rfl, hw4⟩
  clear e3_0 e3_1 e3_2 e3_3 e3_4 e3_5
  have bw4 : Below w3.heap.size w3 w4 := hw4
  have H4 := Lib.hid (H3.out.later bw4)
  have K4 := Lib.hid (K3.out.later bw4)
  have G4 := Lib.hid (G3.out.later bw4)
  have F4 := Lib.hid (F3.out.later bw4)
  have E4 := Lib.hid (E3.out.later bw4)
  have HB4 := Lib.hid (HB3.out.trans (bw4.mono HB3.out.size))
  clear hw4 bw4 H3 K3 G3 F3 E3 HB3
  go_wp2_with (fail)
  refine (cs _ (G4.out)).mono ?_
  rintro e w5 ⟨rfl, hw5⟩
  have bw5 : Below w4.heap.size w4 w5 := hw5
  have H5 := Lib.hid (H4.out.later bw5)
  have K5 := Lib.hid (K4.out.later bw5)
  have G5 := Lib.hid (G4.out.later bw5)
  have F5 := Lib.hid (F4.out.later bw5)
  have E5 := Lib.hid (E4.out.later bw5)
  have HB5 := Lib.hid (HB4.out.trans (bw5.mono HB4.out.size))
  clear hw5 bw5 H4 K4 G4 F4 E4 HB4
  obtain ⟨f5_0, f5_1, f5_2, f5_3, f5_4, f5_5⟩ := F5.out
  obtain ⟨e5_0, e5_1, e5_2, e5_3, e5_4, e5_5⟩ := E5.out
  go_wp2_with (fail)
  refine (c1 _ (H5.out) (K5.out)).mono ?_
  rintro e w6 ⟨rfl, hw6⟩
  clear f5_0 f5_1 f5_2 f5_3 f5_4 f5_5 e5_0 e5_1 e5_2 e5_3 e5_4 e5_5
  have bw6 : Below w5.heap.size w5 w6 := hw6
  have H6 := Lib.hid (H5.out.later bw6)
  have K6 := Lib.hid (K5.out.later bw6)
  have G6 := Lib.hid (G5.out.later bw6)
  have F6 := Lib.hid (F5.out.later bw6)
  have E6 := Lib.hid (E5.out.later bw6)
  have HB6 := Lib.hid (HB5.out.trans (bw6.mono HB5.out.size))
  clear hw6 bw6 H5 K5 G5 F5 E5 HB5
  obtain ⟨f6_0, f6_1, f6_2, f6_3, f6_4, f6_5⟩ := F6.out
  obtain ⟨e6_0, e6_1, e6_2, e6_3, e6_4, e6_5⟩ := E6.out
  go_wp2_with (fail)
  refine (c2 _ (H6.out.later ba1) (K6.out.later ba1)).mono ?_
  rintro e w7 ⟨rfl, hw7⟩
  clear f6_0 f6_1 f6_2 f6_3 f6_4 f6_5 e6_0 e6_1 e6_2 e6_3 e6_4 e6_5
  have bw7 : Below w6.heap.size w6 w7 := bel1 hw7
  have H7 := Lib.hid (H6.out.later bw7)
  have K7 := Lib.hid (K6.out.later bw7)
  have G7 := Lib.hid (G6.out.later bw7)
  have F7 := Lib.hid (F6.out.later bw7)
  have E7 := Lib.hid (E6.out.later bw7)
  have HB7 := Lib.hid (HB6.out.trans (bw7.mono HB6.out.size))
  clear hw7 bw7 H6 K6 G6 F6 E6 HB6
  obtain ⟨f7_0, f7_1, f7_2, f7_3, f7_4, f7_5⟩ := F7.out
  go_wp2_with (fail)
  refine (c4 _ (H7.out) (G7.out)).mono ?_
  rintro e w8 ⟨⟨gT, kT, rfl, hbT⟩, hw8⟩
  clear f7_0 f7_1 f7_2 f7_3 f7_4 f7_5
  have bw8 : Below w7.heap.size w7 w8 := hw8
  have H8 := Lib.hid (H7.out.later bw8)
  have K8 := Lib.hid (K7.out.later bw8)
  have G8 := Lib.hid (G7.out.later bw8)
  have F8 := Lib.hid (F7.out.later bw8)
  have E8 := Lib.hid (E7.out.later bw8)
  have HB8 := Lib.hid (HB7.out.trans (bw8.mono HB7.out.size))
  have TT8 := Lib.hid hbT
  clear hbT
  clear hw8 bw8 H7 K7 G7 F7 E7 HB7
  obtain ⟨f8_0, f8_1, f8_2, f8_3, f8_4, f8_5⟩ := F8.out
  go_wp2_with (fail)
  refine (c5 _ (H8.out.later ba1)).mono ?_
  rintro e w9 ⟨rfl, hw9⟩
  clear f8_0 f8_1 f8_2 f8_3 f8_4 f8_5
  have bw9 : Below w8.heap.size w8 w9 := bel1 hw9
  have TF9 := Lib.hid (FW.n1.later hw9)
  have H9 := Lib.hid (H8.out.later bw9)
  have K9 := Lib.hid (K8.out.later bw9)
  have G9 := Lib.hid (G8.out.later bw9)
  have F9 := Lib.hid (F8.out.later bw9)
  have E9 := Lib.hid (E8.out.later bw9)
  have TT9 := Lib.hid (TT8.out.later bw9)
  have HB9 := Lib.hid (HB8.out.trans (bw9.mono HB8.out.size))
  clear hw9 bw9 H8 K8 G8 F8 E8 TT8 HB8
  obtain ⟨tf9_0, tf9_1, tf9_2, tf9_3, tf9_4, tf9_5⟩ := TF9.out
  go_wp2_with (fail)
  refine (c6 _ _ _ (TT9.out)).mono ?_
  rintro e w10 ⟨rfl, hw10⟩
  clear tf9_0 tf9_1 tf9_2 tf9_3 tf9_4 tf9_5
  have bw10 : Below w9.heap.size w9 w10 := hw10
  have H10 := Lib.hid (H9.out.later bw10)
  have K10 := Lib.hid (K9.out.later bw10)
  have G10 := Lib.hid (G9.out.later bw10)
  have F10 := Lib.hid (F9.out.later bw10)
  have E10 := Lib.hid (E9.out.later bw10)
  have TT10 := Lib.hid (TT9.out.later bw10)
  have TF10 := Lib.hid (TF9.out.later bw10)
  have HB10 := Lib.hid (HB9.out.trans (bw10.mono HB9.out.size))
  clear hw10 bw10 H9 K9 G9 F9 E9 TT9 TF9 HB9
  obtain ⟨f10_0, f10_1, f10_2, f10_3, f10_4, f10_5⟩ := F10.out
  go_wp2_with (fail)
  refine (c7 _ (H10.out)).mono ?_
  rintro e w11 ⟨⟨o7, j7, rfl, hb7⟩, hw11⟩
  clear f10_0 f10_1 f10_2 f10_3 f10_4 f10_5
  have bw11 : Below w10.heap.size w10 w11 := hw11
  have H11 := Lib.hid (H10.out.later bw11)
  have K11 := Lib.hid (K10.out.later bw11)
  have G11 := Lib.hid (G10.out.later bw11)
  have F11 := Lib.hid (F10.out.later bw11)
  have E11 := Lib.hid (E10.out.later bw11)
  have TT11 := Lib.hid (TT10.out.later bw11)
  have TF11 := Lib.hid (TF10.out.later bw11)
  have HB11 := Lib.hid (HB10.out.trans (bw11.mono HB10.out.size))
  have XA11 := Lib.hid hb7
  clear hb7
  clear hw11 bw11 H10 K10 G10 F10 E10 TT10 TF10 HB10
  obtain ⟨tf11_0, tf11_1, tf11_2, tf11_3, tf11_4, tf11_5⟩ := TF11.out
  go_wp2_with (fail)
  refine (c8 _ _ _ (TT11.out)).mono ?_
  rintro e w12 ⟨⟨o8, j8, rfl, hb8⟩, hw12⟩
  clear tf11_0 tf11_1 tf11_2 tf11_3 tf11_4 tf11_5
  have bw12 : Below w11.heap.size w11 w12 := hw12
  have H12 := Lib.hid (H11.out.later bw12)
  have K12 := Lib.hid (K11.out.later bw12)
  have G12 := Lib.hid (G11.out.later bw12)
  have F12 := Lib.hid (F11.out.later bw12)
  have E12 := Lib.hid (E11.out.later bw12)
  have TT12 := Lib.hid (TT11.out.later bw12)
  have TF12 := Lib.hid (TF11.out.later bw12)
  have XA12 := Lib.hid (XA11.out.later bw12)
  have HB12 := Lib.hid (HB11.out.trans (bw12.mono HB11.out.size))
  have XB12 := Lib.hid hb8
  clear hb8
  clear hw12 bw12 H11 K11 G11 F11 E11 TT11 TF11 XA11 HB11
  obtain ⟨f12_0, f12_1, f12_2, f12_3, f12_4, f12_5⟩ := F12.out
  obtain ⟨tf12_0, tf12_1, tf12_2, tf12_3, tf12_4, tf12_5⟩ := TF12.out
  go_wp2_with (fail)
  refine (c9 _ _ _ (H12.out) (TT12.out)).mono ?_
  rintro e w13 ⟨⟨p, rfl, hR⟩, hw13⟩
  clear f12_0 f12_1 f12_2 f12_3 f12_4 f12_5 tf12_0 tf12_1 tf12_2 tf12_3 tf12_4 tf12_5
  have bw13 : Below w12.heap.size w12 w13 := hw13
  have H13 := Lib.hid (H12.out.later bw13)
  have K13 := Lib.hid (K12.out.later bw13)
  have G13 := Lib.hid (G12.out.later bw13)
  have F13 := Lib.hid (F12.out.later bw13)
  have E13 := Lib.hid (E12.out.later bw13)
  have TT13 := Lib.hid (TT12.out.later bw13)
  have TF13 := Lib.hid (TF12.out.later bw13)
  have XA13 := Lib.hid (XA12.out.later bw13)
  have XB13 := Lib.hid (XB12.out.later bw13)
  have HB13 := Lib.hid (HB12.out.trans (bw13.mono HB12.out.size))
  clear hw13 bw13 H12 K12 G12 F12 E12 TT12 TF12 XA12 XB12 HB12
  obtain ⟨f13_0, f13_1, f13_2, f13_3, f13_4, f13_5⟩ := F13.out
  obtain ⟨tf13_0, tf13_1, tf13_2, tf13_3, tf13_4, tf13_5⟩ := TF13.out
  go_wp2_with (fail)
  refine (c10 _ p _ _ hR.out (H13.out.later ba1) (TT13.out.later ba1)).mono ?_
  rintro e w14 ⟨rfl, hw14⟩
  clear f13_0 f13_1 f13_2 f13_3 f13_4 f13_5 tf13_0 tf13_1 tf13_2 tf13_3 tf13_4 tf13_5
  have bw14 : Below w13.heap.size w13 w14 := bel1 hw14
  have QB14 := Lib.hid (C4.n1.later hw14)
  have H14 := Lib.hid (H13.out.later bw14)
  have K14 := Lib.hid (K13.out.later bw14)
  have G14 := Lib.hid (G13.out.later bw14)
  have F14 := Lib.hid (F13.out.later bw14)
  have E14 := Lib.hid (E13.out.later bw14)
  have TT14 := Lib.hid (TT13.out.later bw14)
  have TF14 := Lib.hid (TF13.out.later bw14)
  have XA14 := Lib.hid (XA13.out.later bw14)
  have XB14 := Lib.hid (XB13.out.later bw14)
  have HB14 := Lib.hid (HB13.out.trans (bw14.mono HB13.out.size))
  clear hw14 bw14 H13 K13 G13 F13 E13 TT13 TF13 XA13 XB13 HB13
  go_upto_if 159 with (fail)
  go_cut [18, 20] from 7 to 174 (fun s18 s20 wx => s18 = .slice o7 m j7 ∧ s20 = .slice o8 m j8 ∧ Hid (LiesOI wx o7 (rl X)) ∧ Hid (LiesOI wx o8 (rl X)) ∧ Hid (Below w.heap.size w wx))
  case first =>
    go_wp2
    go_meet
    exact ⟨rfl, rfl, XA14, XB14, HB14⟩
  case rest =>
    obtain ⟨rfl, rfl, XA, XB, HB⟩ := hcut
    clear c0 d0 cs co cf c1 c2  c4 c5 c6 c7 c8 c9 c10 t2 t1
    as_aux_lemma =>
      have qT : ∀ (u1 u2 : Int) W, Sem.run Try.prog (Op.equalIn 10000 47 (.agg #[.int .i64 u1, .int .i64 u2]) (.agg #[.int .i64 u1, .int .i64 u2])) W = .ok true W := fun u1 u2 W => by simp [go_sem]
      go_wp2
      go_loopw [25] (fun q wr => ∃ i : Nat, i ≤ m ∧ q = .int .i64 i ∧ Hid (LiesOI wr o7 (rl X)) ∧ Hid (LiesOI wr o8 (rl X)) ∧ Hid (Below w.heap.size w wr)) (fun q _ => m - (intOf q).toNat)
      case atStart => exact ⟨0, by omega, rfl, XA, XB, HB⟩
      case round =>
        obtain ⟨i, hi, rfl, YA, YB, YW⟩ := hrel
        by_cases hlt : i < m
        · have ii : (i : Int) < (m : Int) := by omega
          obtain ⟨r, hr⟩ : ∃ r, X[i]? = some r := ⟨_, List.getElem?_eq_getElem (by rw [hX]; exact hlt)⟩
          obtain ⟨b7, f7, rfl, x0, x1⟩ := rlT_at YA.out hr
          obtain ⟨b8, f8, rfl, y0, y1⟩ := rlT_at YB.out hr
          have lx := World.block_lt_of_cell? _ _ x0
          have ly := World.block_lt_of_cell? _ _ y0
          have q1 := qT r.1 r.2
          have kc := @Tail.cell_re
          clear hr
          go_wp2
          refine Tail.region_below (by kernel_rfl) (by kernel_rfl) ?_
          repeat (go_big_quiet_step (fail))
          refine wpQuiet_nil ?_
          intro w2 hw2
          have ZA := Lib.hid (YA.out.later hw2)
          have ZB := Lib.hid (YB.out.later hw2)
          have ZW := Lib.hid (YW.out.trans (hw2.mono YW.out.size))
          clear x0 x1 y0 y1 lx ly hw2 YA YB YW q1 kc
          go_wp2
          exact ⟨⟨i + 1, by omega, by go_num, ZA, ZB, ZW⟩, by simp [intOf]; omega⟩
        · obtain rfl : i = m := by omega
          go_wp2
          go_ret
          exact ⟨rfl, YW.out⟩
set_option maxHeartbeats 6400000 in
theorem tGa_yt (a b c a' b' c' r4 n5 r5 : Int) (ao bo go : Option Addr) (cap cap' gc : Nat) (L M G : List Q) (w : World) (P : Q → Prop) (k1 : L.length ≤ 200) (k2 : M.length ≤ 200) (k3 : G.length ≤ 100) (hm : LiesO w ao L) (hn : LiesO w bo M) (hg : LiesO w go G) (k4 : N12L G) (h0 : r4 ≠ 0)
    (c1 : ∀ (W : World), LiesO W ao L → LiesO W bo M → Calls Try.prog 29 #[.agg #[.int .i64 a, .int .i64 b, .int .i64 c, .slice ao L.length cap], .agg #[.int .i64 a', .int .i64 b', .int .i64 c', .slice bo M.length cap']] W fun e w' => (∃ q : Q, e = .returned (.tuple #[.agg #[.int .i64 q.a, .int .i64 q.b, .int .i64 q.c, .int .i64 q.d], .bool true, .int .i64 0]) ∧ Hid (P q)) ∧ Below W.heap.size W w')
    (c2 : ∀ (W : World), LiesO W ao L → LiesO W bo M → Calls Try.prog 15 #[.agg #[.int .i64 a, .int .i64 b, .int .i64 c, .slice ao L.length cap], .agg #[.int .i64 a', .int .i64 b', .int .i64 c', .slice bo M.length cap']] W fun e w' => e = .returned (.tuple #[.bool true, .int .i64 0]) ∧ Below W.heap.size W w')
    (c3 : ∀ (W : World) (q : Q), P q → LiesO W ao L → LiesO W bo M → Calls Try.prog 17 #[.agg #[.int .i64 a, .int .i64 b, .int .i64 c, .slice ao L.length cap], .agg #[.int .i64 a', .int .i64 b', .int .i64 c', .slice bo M.length cap'], .agg #[.int .i64 q.a, .int .i64 q.b, .int .i64 q.c, .int .i64 q.d]] W fun e w' => e = .returned (.int .i64 0) ∧ Below W.heap.size W w')
    (c4 : ∀ (W : World), LiesO W ao L → LiesO W go G → Calls Try.prog 13 #[.agg #[.int .i64 a, .int .i64 b, .int .i64 c, .slice ao L.length cap], .slice go G.length gc] W fun e w' => AnyF r4 e ∧ Below W.heap.size W w')
    (c5 : ∀ (W : World), LiesO W ao L → Calls Try.prog 27 #[.agg #[.int .i64 a, .int .i64 b, .int .i64 c, .slice ao L.length cap]] W fun e w' => e = .returned (.tuple #[.int .i64 n5, .int .i64 r5]) ∧ Below W.heap.size W w') : Calls Try.prog 7 #[.agg #[.int .i64 a, .int .i64 b, .int .i64 c, .slice ao L.length cap], .agg #[.int .i64 a', .int .i64 b', .int .i64 c', .slice bo M.length cap'], .slice go G.length gc] w fun e w' => e = .returned (.bool true) ∧ Below w.heap.size w w' := by
  have co := cold_any
  have cf := free_cold
  have c0 := fun W : World => long4_any a b c ao cap L false W (.inr ⟨k1, rfl⟩)
  have d0 := fun W : World => long4_any a' b' c' bo cap' M false W (.inr ⟨k2, rfl⟩)
  have cs := fun (W : World) (h : LiesO W go G) => small4_any go gc G true W h (by omega) (.inl ⟨k4, rfl⟩)
  have i1 : ¬ (G.length : Int) > 100 := by omega
  have H0 := Lib.hid hm
  have K0 := Lib.hid hn
  have G0 := Lib.hid hg
  clear hm hn hg k1 k2 k3 k4
  have t0 : (r4 != 0) = true := by simpa using h0
  clear h0
  go_enter Try.func7, Try.ntmps7
  go_wp2_with (fail)
  refine (co _).mono ?_
  rintro e w1 ⟨⟨g1, rfl, hb1⟩, hw1⟩
  have bw1 : Below w.heap.size w w1 := bel2 hw1
  have F1 := Lib.hid (FW.n2a.later hw1)
  have E1 := Lib.hid (FW.n2b.later hw1)
  have H1 := Lib.hid (H0.out.later bw1)
  have K1 := Lib.hid (K0.out.later bw1)
  have G1 := Lib.hid (G0.out.later bw1)
  have HB1 := Lib.hid bw1
  have CL1 := Lib.hid hb1
  clear hb1
  clear hw1 bw1 H0 K0 G0
  go_wp2_with (fail)
  refine (cf _ _ (CL1.out)).mono ?_
  rintro e w2 ⟨rfl, hw2⟩
  have bw2 : Below w1.heap.size w1 w2 := hw2
  have H2 := Lib.hid (H1.out.later bw2)
  have K2 := Lib.hid (K1.out.later bw2)
  have G2 := Lib.hid (G1.out.later bw2)
  have F2 := Lib.hid (F1.out.later bw2)
  have E2 := Lib.hid (E1.out.later bw2)
  have CL2 := Lib.hid (CL1.out.later bw2)
  have HB2 := Lib.hid (HB1.out.trans (bw2.mono HB1.out.size))
  clear hw2 bw2 H1 K1 G1 F1 E1 CL1 HB1
  clear CL2
  obtain ⟨f2_0, f2_1, f2_2, f2_3, f2_4, f2_5⟩ := F2.out
  go_wp2_with (fail)
  refine (c0 _).mono ?_
  rintro e w3 ⟨rfl, hw3⟩
  clear f2_0 f2_1 f2_2 f2_3 f2_4 f2_5
  have bw3 : Below w2.heap.size w2 w3 := hw3
  have H3 := Lib.hid (H2.out.later bw3)
  have K3 := Lib.hid (K2.out.later bw3)
  have G3 := Lib.hid (G2.out.later bw3)
  have F3 := Lib.hid (F2.out.later bw3)
  have E3 := Lib.hid (E2.out.later bw3)
  have HB3 := Lib.hid (HB2.out.trans (bw3.mono HB2.out.size))
  clear hw3 bw3 H2 K2 G2 F2 E2 HB2
  obtain ⟨e3_0, e3_1, e3_2, e3_3, e3_4, e3_5⟩ := E3.out
  go_wp2_with (fail)
  refine (d0 _).mono ?_
  rintro e w4 ⟨rfl, hw4⟩
  clear e3_0 e3_1 e3_2 e3_3 e3_4 e3_5
  have bw4 : Below w3.heap.size w3 w4 := hw4
  have H4 := Lib.hid (H3.out.later bw4)
  have K4 := Lib.hid (K3.out.later bw4)
  have G4 := Lib.hid (G3.out.later bw4)
  have F4 := Lib.hid (F3.out.later bw4)
  have E4 := Lib.hid (E3.out.later bw4)
  have HB4 := Lib.hid (HB3.out.trans (bw4.mono HB3.out.size))
  clear hw4 bw4 H3 K3 G3 F3 E3 HB3
  go_wp2_with (fail)
  refine (cs _ (G4.out)).mono ?_
  rintro e w5 ⟨rfl, hw5⟩
  have bw5 : Below w4.heap.size w4 w5 := hw5
  have H5 := Lib.hid (H4.out.later bw5)
  have K5 := Lib.hid (K4.out.later bw5)
  have G5 := Lib.hid (G4.out.later bw5)
  have F5 := Lib.hid (F4.out.later bw5)
  have E5 := Lib.hid (E4.out.later bw5)
  have HB5 := Lib.hid (HB4.out.trans (bw5.mono HB4.out.size))
  clear hw5 bw5 H4 K4 G4 F4 E4 HB4
  obtain ⟨f5_0, f5_1, f5_2, f5_3, f5_4, f5_5⟩ := F5.out
  obtain ⟨e5_0, e5_1, e5_2, e5_3, e5_4, e5_5⟩ := E5.out
  go_wp2_with (fail)
  refine (c1 _ (H5.out) (K5.out)).mono ?_
  rintro e w6 ⟨⟨q, rfl, hP⟩, hw6⟩
  clear f5_0 f5_1 f5_2 f5_3 f5_4 f5_5 e5_0 e5_1 e5_2 e5_3 e5_4 e5_5
  have bw6 : Below w5.heap.size w5 w6 := hw6
  have H6 := Lib.hid (H5.out.later bw6)
  have K6 := Lib.hid (K5.out.later bw6)
  have G6 := Lib.hid (G5.out.later bw6)
  have F6 := Lib.hid (F5.out.later bw6)
  have E6 := Lib.hid (E5.out.later bw6)
  have HB6 := Lib.hid (HB5.out.trans (bw6.mono HB5.out.size))
  clear hw6 bw6 H5 K5 G5 F5 E5 HB5
  obtain ⟨f6_0, f6_1, f6_2, f6_3, f6_4, f6_5⟩ := F6.out
  obtain ⟨e6_0, e6_1, e6_2, e6_3, e6_4, e6_5⟩ := E6.out
  go_wp2_with (fail)
  refine (c2 _ (H6.out.later ba1) (K6.out.later ba1)).mono ?_
  rintro e w7 ⟨rfl, hw7⟩
  clear f6_0 f6_1 f6_2 f6_3 f6_4 f6_5 e6_0 e6_1 e6_2 e6_3 e6_4 e6_5
  have bw7 : Below w6.heap.size w6 w7 := bel1 hw7
  have QA7 := Lib.hid (C4.n1.later hw7)
  have H7 := Lib.hid (H6.out.later bw7)
  have K7 := Lib.hid (K6.out.later bw7)
  have G7 := Lib.hid (G6.out.later bw7)
  have F7 := Lib.hid (F6.out.later bw7)
  have E7 := Lib.hid (E6.out.later bw7)
  have HB7 := Lib.hid (HB6.out.trans (bw7.mono HB6.out.size))
  clear hw7 bw7 H6 K6 G6 F6 E6 HB6
  obtain ⟨f7_0, f7_1, f7_2, f7_3, f7_4, f7_5⟩ := F7.out
  obtain ⟨e7_0, e7_1, e7_2, e7_3, e7_4, e7_5⟩ := E7.out
  obtain ⟨qa7_0, qa7_1, qa7_2, qa7_3, qa7_4, qa7_5⟩ := QA7.out
  go_wp2_with (fail)
  refine (c3 _ q hP.out (H7.out) (K7.out)).mono ?_
  rintro e w8 ⟨rfl, hw8⟩
  clear f7_0 f7_1 f7_2 f7_3 f7_4 f7_5 e7_0 e7_1 e7_2 e7_3 e7_4 e7_5 qa7_0 qa7_1 qa7_2 qa7_3 qa7_4 qa7_5
  have bw8 : Below w7.heap.size w7 w8 := hw8
  have H8 := Lib.hid (H7.out.later bw8)
  have K8 := Lib.hid (K7.out.later bw8)
  have G8 := Lib.hid (G7.out.later bw8)
  have F8 := Lib.hid (F7.out.later bw8)
  have E8 := Lib.hid (E7.out.later bw8)
  have QA8 := Lib.hid (QA7.out.later bw8)
  have HB8 := Lib.hid (HB7.out.trans (bw8.mono HB7.out.size))
  clear hw8 bw8 H7 K7 G7 F7 E7 QA7 HB7
  obtain ⟨f8_0, f8_1, f8_2, f8_3, f8_4, f8_5⟩ := F8.out
  go_wp2_with (fail)
  refine (c4 _ (H8.out) (G8.out)).mono ?_
  rintro e w9 ⟨⟨x4, y4, z4, s4, m4, j4, rfl⟩, hw9⟩
  clear f8_0 f8_1 f8_2 f8_3 f8_4 f8_5
  have bw9 : Below w8.heap.size w8 w9 := hw9
  have H9 := Lib.hid (H8.out.later bw9)
  have K9 := Lib.hid (K8.out.later bw9)
  have G9 := Lib.hid (G8.out.later bw9)
  have F9 := Lib.hid (F8.out.later bw9)
  have E9 := Lib.hid (E8.out.later bw9)
  have QA9 := Lib.hid (QA8.out.later bw9)
  have HB9 := Lib.hid (HB8.out.trans (bw9.mono HB8.out.size))
  clear hw9 bw9 H8 K8 G8 F8 E8 QA8 HB8
  obtain ⟨f9_0, f9_1, f9_2, f9_3, f9_4, f9_5⟩ := F9.out
  go_wp2_with (fail)
  refine (c5 _ (H9.out.later ba1)).mono ?_
  rintro e w10 ⟨rfl, hw10⟩
  clear f9_0 f9_1 f9_2 f9_3 f9_4 f9_5
  have bw10 : Below w9.heap.size w9 w10 := bel1 hw10
  have H10 := Lib.hid (H9.out.later bw10)
  have K10 := Lib.hid (K9.out.later bw10)
  have G10 := Lib.hid (G9.out.later bw10)
  have F10 := Lib.hid (F9.out.later bw10)
  have E10 := Lib.hid (E9.out.later bw10)
  have QA10 := Lib.hid (QA9.out.later bw10)
  have HB10 := Lib.hid (HB9.out.trans (bw10.mono HB9.out.size))
  clear hw10 bw10 H9 K9 G9 F9 E9 QA9 HB9
  go_wp2
  go_ret
  exact ⟨rfl, HB10.out⟩
set_option maxHeartbeats 6400000 in
theorem tGa_yf (a b c a' b' c' n5 r5 : Int) (ao bo go : Option Addr) (cap cap' gc : Nat) (L M G : List Q) (w : World) (P : Q → Prop) (k1 : L.length ≤ 200) (k2 : M.length ≤ 200) (k3 : G.length ≤ 100) (hm : LiesO w ao L) (hn : LiesO w bo M) (hg : LiesO w go G) (k4 : N12L G) (h0 : r5 ≠ 0)
    (c1 : ∀ (W : World), LiesO W ao L → LiesO W bo M → Calls Try.prog 29 #[.agg #[.int .i64 a, .int .i64 b, .int .i64 c, .slice ao L.length cap], .agg #[.int .i64 a', .int .i64 b', .int .i64 c', .slice bo M.length cap']] W fun e w' => (∃ q : Q, e = .returned (.tuple #[.agg #[.int .i64 q.a, .int .i64 q.b, .int .i64 q.c, .int .i64 q.d], .bool true, .int .i64 0]) ∧ Hid (P q)) ∧ Below W.heap.size W w')
    (c2 : ∀ (W : World), LiesO W ao L → LiesO W bo M → Calls Try.prog 15 #[.agg #[.int .i64 a, .int .i64 b, .int .i64 c, .slice ao L.length cap], .agg #[.int .i64 a', .int .i64 b', .int .i64 c', .slice bo M.length cap']] W fun e w' => e = .returned (.tuple #[.bool true, .int .i64 0]) ∧ Below W.heap.size W w')
    (c3 : ∀ (W : World) (q : Q), P q → LiesO W ao L → LiesO W bo M → Calls Try.prog 17 #[.agg #[.int .i64 a, .int .i64 b, .int .i64 c, .slice ao L.length cap], .agg #[.int .i64 a', .int .i64 b', .int .i64 c', .slice bo M.length cap'], .agg #[.int .i64 q.a, .int .i64 q.b, .int .i64 q.c, .int .i64 q.d]] W fun e w' => e = .returned (.int .i64 0) ∧ Below W.heap.size W w')
    (c4 : ∀ (W : World), LiesO W ao L → LiesO W go G → Calls Try.prog 13 #[.agg #[.int .i64 a, .int .i64 b, .int .i64 c, .slice ao L.length cap], .slice go G.length gc] W fun e w' => AnyF 0 e ∧ Below W.heap.size W w')
    (c5 : ∀ (W : World), LiesO W ao L → Calls Try.prog 27 #[.agg #[.int .i64 a, .int .i64 b, .int .i64 c, .slice ao L.length cap]] W fun e w' => e = .returned (.tuple #[.int .i64 n5, .int .i64 r5]) ∧ Below W.heap.size W w') : Calls Try.prog 7 #[.agg #[.int .i64 a, .int .i64 b, .int .i64 c, .slice ao L.length cap], .agg #[.int .i64 a', .int .i64 b', .int .i64 c', .slice bo M.length cap'], .slice go G.length gc] w fun e w' => e = .returned (.bool true) ∧ Below w.heap.size w w' := by
  have co := cold_any
  have cf := free_cold
  have c0 := fun W : World => long4_any a b c ao cap L false W (.inr ⟨k1, rfl⟩)
  have d0 := fun W : World => long4_any a' b' c' bo cap' M false W (.inr ⟨k2, rfl⟩)
  have cs := fun (W : World) (h : LiesO W go G) => small4_any go gc G true W h (by omega) (.inl ⟨k4, rfl⟩)
  have i1 : ¬ (G.length : Int) > 100 := by omega
  have H0 := Lib.hid hm
  have K0 := Lib.hid hn
  have G0 := Lib.hid hg
  clear hm hn hg k1 k2 k3 k4
  have t0 : (r5 != 0) = true := by simpa using h0
  clear h0
  go_enter Try.func7, Try.ntmps7
  go_wp2_with (fail)
  refine (co _).mono ?_
  rintro e w1 ⟨⟨g1, rfl, hb1⟩, hw1⟩
  have bw1 : Below w.heap.size w w1 := bel2 hw1
  have F1 := Lib.hid (FW.n2a.later hw1)
  have E1 := Lib.hid (FW.n2b.later hw1)
  have H1 := Lib.hid (H0.out.later bw1)
  have K1 := Lib.hid (K0.out.later bw1)
  have G1 := Lib.hid (G0.out.later bw1)
  have HB1 := Lib.hid bw1
  have CL1 := Lib.hid hb1
  clear hb1
  clear hw1 bw1 H0 K0 G0
  go_wp2_with (fail)
  refine (cf _ _ (CL1.out)).mono ?_
  rintro e w2 ⟨rfl, hw2⟩
  have bw2 : Below w1.heap.size w1 w2 := hw2
  have H2 := Lib.hid (H1.out.later bw2)
  have K2 := Lib.hid (K1.out.later bw2)
  have G2 := Lib.hid (G1.out.later bw2)
  have F2 := Lib.hid (F1.out.later bw2)
  have E2 := Lib.hid (E1.out.later bw2)
  have CL2 := Lib.hid (CL1.out.later bw2)
  have HB2 := Lib.hid (HB1.out.trans (bw2.mono HB1.out.size))
  clear hw2 bw2 H1 K1 G1 F1 E1 CL1 HB1
  clear CL2
  obtain ⟨f2_0, f2_1, f2_2, f2_3, f2_4, f2_5⟩ := F2.out
  go_wp2_with (fail)
  refine (c0 _).mono ?_
  rintro e w3 ⟨rfl, hw3⟩
  clear f2_0 f2_1 f2_2 f2_3 f2_4 f2_5
  have bw3 : Below w2.heap.size w2 w3 := hw3
  have H3 := Lib.hid (H2.out.later bw3)
  have K3 := Lib.hid (K2.out.later bw3)
  have G3 := Lib.hid (G2.out.later bw3)
  have F3 := Lib.hid (F2.out.later bw3)
  have E3 := Lib.hid (E2.out.later bw3)
  have HB3 := Lib.hid (HB2.out.trans (bw3.mono HB2.out.size))
  clear hw3 bw3 H2 K2 G2 F2 E2 HB2
  obtain ⟨e3_0, e3_1, e3_2, e3_3, e3_4, e3_5⟩ := E3.out
  go_wp2_with (fail)
  refine (d0 _).mono ?_
  rintro e w4 ⟨rfl, hw4⟩
  clear e3_0 e3_1 e3_2 e3_3 e3_4 e3_5
  have bw4 : Below w3.heap.size w3 w4 := hw4
  have H4 := Lib.hid (H3.out.later bw4)
  have K4 := Lib.hid (K3.out.later bw4)
  have G4 := Lib.hid (G3.out.later bw4)
  have F4 := Lib.hid (F3.out.later bw4)
  have E4 := Lib.hid (E3.out.later bw4)
  have HB4 := Lib.hid (HB3.out.trans (bw4.mono HB3.out.size))
  clear hw4 bw4 H3 K3 G3 F3 E3 HB3
  go_wp2_with (fail)
  refine (cs _ (G4.out)).mono ?_
  rintro e w5 ⟨rfl, hw5⟩
  have bw5 : Below w4.heap.size w4 w5 := hw5
  have H5 := Lib.hid (H4.out.later bw5)
  have K5 := Lib.hid (K4.out.later bw5)
  have G5 := Lib.hid (G4.out.later bw5)
  have F5 := Lib.hid (F4.out.later bw5)
  have E5 := Lib.hid (E4.out.later bw5)
  have HB5 := Lib.hid (HB4.out.trans (bw5.mono HB4.out.size))
  clear hw5 bw5 H4 K4 G4 F4 E4 HB4
  obtain ⟨f5_0, f5_1, f5_2, f5_3, f5_4, f5_5⟩ := F5.out
  obtain ⟨e5_0, e5_1, e5_2, e5_3, e5_4, e5_5⟩ := E5.out
  go_wp2_with (fail)
  refine (c1 _ (H5.out) (K5.out)).mono ?_
  rintro e w6 ⟨⟨q, rfl, hP⟩, hw6⟩
  clear f5_0 f5_1 f5_2 f5_3 f5_4 f5_5 e5_0 e5_1 e5_2 e5_3 e5_4 e5_5
  have bw6 : Below w5.heap.size w5 w6 := hw6
  have H6 := Lib.hid (H5.out.later bw6)
  have K6 := Lib.hid (K5.out.later bw6)
  have G6 := Lib.hid (G5.out.later bw6)
  have F6 := Lib.hid (F5.out.later bw6)
  have E6 := Lib.hid (E5.out.later bw6)
  have HB6 := Lib.hid (HB5.out.trans (bw6.mono HB5.out.size))
  clear hw6 bw6 H5 K5 G5 F5 E5 HB5
  obtain ⟨f6_0, f6_1, f6_2, f6_3, f6_4, f6_5⟩ := F6.out
  obtain ⟨e6_0, e6_1, e6_2, e6_3, e6_4, e6_5⟩ := E6.out
  go_wp2_with (fail)
  refine (c2 _ (H6.out.later ba1) (K6.out.later ba1)).mono ?_
  rintro e w7 ⟨rfl, hw7⟩
  clear f6_0 f6_1 f6_2 f6_3 f6_4 f6_5 e6_0 e6_1 e6_2 e6_3 e6_4 e6_5
  have bw7 : Below w6.heap.size w6 w7 := bel1 hw7
  have QA7 := Lib.hid (C4.n1.later hw7)
  have H7 := Lib.hid (H6.out.later bw7)
  have K7 := Lib.hid (K6.out.later bw7)
  have G7 := Lib.hid (G6.out.later bw7)
  have F7 := Lib.hid (F6.out.later bw7)
  have E7 := Lib.hid (E6.out.later bw7)
  have HB7 := Lib.hid (HB6.out.trans (bw7.mono HB6.out.size))
  clear hw7 bw7 H6 K6 G6 F6 E6 HB6
  obtain ⟨f7_0, f7_1, f7_2, f7_3, f7_4, f7_5⟩ := F7.out
  obtain ⟨e7_0, e7_1, e7_2, e7_3, e7_4, e7_5⟩ := E7.out
  obtain ⟨qa7_0, qa7_1, qa7_2, qa7_3, qa7_4, qa7_5⟩ := QA7.out
  go_wp2_with (fail)
  refine (c3 _ q hP.out (H7.out) (K7.out)).mono ?_
  rintro e w8 ⟨rfl, hw8⟩
  clear f7_0 f7_1 f7_2 f7_3 f7_4 f7_5 e7_0 e7_1 e7_2 e7_3 e7_4 e7_5 qa7_0 qa7_1 qa7_2 qa7_3 qa7_4 qa7_5
  have bw8 : Below w7.heap.size w7 w8 := hw8
  have H8 := Lib.hid (H7.out.later bw8)
  have K8 := Lib.hid (K7.out.later bw8)
  have G8 := Lib.hid (G7.out.later bw8)
  have F8 := Lib.hid (F7.out.later bw8)
  have E8 := Lib.hid (E7.out.later bw8)
  have QA8 := Lib.hid (QA7.out.later bw8)
  have HB8 := Lib.hid (HB7.out.trans (bw8.mono HB7.out.size))
  clear hw8 bw8 H7 K7 G7 F7 E7 QA7 HB7
  obtain ⟨f8_0, f8_1, f8_2, f8_3, f8_4, f8_5⟩ := F8.out
  go_wp2_with (fail)
  refine (c4 _ (H8.out) (G8.out)).mono ?_
  rintro e w9 ⟨⟨x4, y4, z4, s4, m4, j4, rfl⟩, hw9⟩
  clear f8_0 f8_1 f8_2 f8_3 f8_4 f8_5
  have bw9 : Below w8.heap.size w8 w9 := hw9
  have H9 := Lib.hid (H8.out.later bw9)
  have K9 := Lib.hid (K8.out.later bw9)
  have G9 := Lib.hid (G8.out.later bw9)
  have F9 := Lib.hid (F8.out.later bw9)
  have E9 := Lib.hid (E8.out.later bw9)
  have QA9 := Lib.hid (QA8.out.later bw9)
  have HB9 := Lib.hid (HB8.out.trans (bw9.mono HB8.out.size))
  clear hw9 bw9 H8 K8 G8 F8 E8 QA8 HB8
  obtain ⟨f9_0, f9_1, f9_2, f9_3, f9_4, f9_5⟩ := F9.out
  go_wp2_with (fail)
  refine (c5 _ (H9.out.later ba1)).mono ?_
  rintro e w10 ⟨rfl, hw10⟩
  clear f9_0 f9_1 f9_2 f9_3 f9_4 f9_5
  have bw10 : Below w9.heap.size w9 w10 := bel1 hw10
  have H10 := Lib.hid (H9.out.later bw10)
  have K10 := Lib.hid (K9.out.later bw10)
  have G10 := Lib.hid (G9.out.later bw10)
  have F10 := Lib.hid (F9.out.later bw10)
  have E10 := Lib.hid (E9.out.later bw10)
  have QA10 := Lib.hid (QA9.out.later bw10)
  have HB10 := Lib.hid (HB9.out.trans (bw10.mono HB9.out.size))
  clear hw10 bw10 H9 K9 G9 F9 E9 QA9 HB9
  go_wp2
  go_ret
  exact ⟨rfl, HB10.out⟩
set_option maxHeartbeats 6400000 in
theorem tGa_yg (a b c a' b' c' n5 : Int) (ao bo go : Option Addr) (cap cap' gc : Nat) (L M G : List Q) (w : World) (P : Q → Prop) (T : List Q) (m : Nat) (X : List (Int × Int)) (R : Q → Prop) (k1 : L.length ≤ 200) (k2 : M.length ≤ 200) (k3 : G.length ≤ 100) (hm : LiesO w ao L) (hn : LiesO w bo M) (hg : LiesO w go G) (k4 : N12L G) (hX : X.length = m) (hm48 : m ≤ 1000)
    (c1 : ∀ (W : World), LiesO W ao L → LiesO W bo M → Calls Try.prog 29 #[.agg #[.int .i64 a, .int .i64 b, .int .i64 c, .slice ao L.length cap], .agg #[.int .i64 a', .int .i64 b', .int .i64 c', .slice bo M.length cap']] W fun e w' => (∃ q : Q, e = .returned (.tuple #[.agg #[.int .i64 q.a, .int .i64 q.b, .int .i64 q.c, .int .i64 q.d], .bool true, .int .i64 0]) ∧ Hid (P q)) ∧ Below W.heap.size W w')
    (c2 : ∀ (W : World), LiesO W ao L → LiesO W bo M → Calls Try.prog 15 #[.agg #[.int .i64 a, .int .i64 b, .int .i64 c, .slice ao L.length cap], .agg #[.int .i64 a', .int .i64 b', .int .i64 c', .slice bo M.length cap']] W fun e w' => e = .returned (.tuple #[.bool true, .int .i64 0]) ∧ Below W.heap.size W w')
    (c3 : ∀ (W : World) (q : Q), P q → LiesO W ao L → LiesO W bo M → Calls Try.prog 17 #[.agg #[.int .i64 a, .int .i64 b, .int .i64 c, .slice ao L.length cap], .agg #[.int .i64 a', .int .i64 b', .int .i64 c', .slice bo M.length cap'], .agg #[.int .i64 q.a, .int .i64 q.b, .int .i64 q.c, .int .i64 q.d]] W fun e w' => e = .returned (.int .i64 0) ∧ Below W.heap.size W w')
    (c4 : ∀ (W : World), LiesO W ao L → LiesO W go G → Calls Try.prog 13 #[.agg #[.int .i64 a, .int .i64 b, .int .i64 c, .slice ao L.length cap], .slice go G.length gc] W fun e w' => RetTf a b c L.length T e w' ∧ Below W.heap.size W w')
    (c5 : ∀ (W : World), LiesO W ao L → Calls Try.prog 27 #[.agg #[.int .i64 a, .int .i64 b, .int .i64 c, .slice ao L.length cap]] W fun e w' => e = .returned (.tuple #[.int .i64 n5, .int .i64 0]) ∧ Below W.heap.size W w')
    (c6 : ∀ (W : World) (g k : Nat), LBox W g T → Calls Try.prog 27 #[.agg #[.int .i64 a, .int .i64 b, .int .i64 c, .slice (some ⟨g, 0, none⟩) L.length k]] W fun e w' => e = .returned (.tuple #[.int .i64 n5, .int .i64 0]) ∧ Below W.heap.size W w')
    (c7 : ∀ (W : World), LiesO W ao L → Calls Try.prog 30 #[.agg #[.int .i64 a, .int .i64 b, .int .i64 c, .slice ao L.length cap]] W fun e w' => (∃ (o : Option Addr) (k : Nat), e = .returned (.tuple #[.slice o m k, .int .i64 0]) ∧ LiesOI w' o (rl X)) ∧ Below W.heap.size W w')
    (c8 : ∀ (W : World) (g k : Nat), LBox W g T → Calls Try.prog 30 #[.agg #[.int .i64 a, .int .i64 b, .int .i64 c, .slice (some ⟨g, 0, none⟩) L.length k]] W fun e w' => (∃ (o : Option Addr) (k : Nat), e = .returned (.tuple #[.slice o m k, .int .i64 0]) ∧ LiesOI w' o (rl X)) ∧ Below W.heap.size W w')
    (c9 : ∀ (W : World) (g k : Nat), LiesO W ao L → LBox W g T → Calls Try.prog 29 #[.agg #[.int .i64 a, .int .i64 b, .int .i64 c, .slice ao L.length cap], .agg #[.int .i64 a, .int .i64 b, .int .i64 c, .slice (some ⟨g, 0, none⟩) L.length k]] W fun e w' => (∃ q : Q, e = .returned (.tuple #[.agg #[.int .i64 q.a, .int .i64 q.b, .int .i64 q.c, .int .i64 q.d], .bool true, .int .i64 0]) ∧ Hid (R q)) ∧ Below W.heap.size W w')
    (c10 : ∀ (W : World) (q : Q) (g k : Nat), R q → LiesO W ao L → LBox W g T → Calls Try.prog 17 #[.agg #[.int .i64 a, .int .i64 b, .int .i64 c, .slice ao L.length cap], .agg #[.int .i64 a, .int .i64 b, .int .i64 c, .slice (some ⟨g, 0, none⟩) L.length k], .agg #[.int .i64 q.a, .int .i64 q.b, .int .i64 q.c, .int .i64 q.d]] W fun e w' => e = .returned (.int .i64 0) ∧ Below W.heap.size W w') : Calls Try.prog 7 #[.agg #[.int .i64 a, .int .i64 b, .int .i64 c, .slice ao L.length cap], .agg #[.int .i64 a', .int .i64 b', .int .i64 c', .slice bo M.length cap'], .slice go G.length gc] w fun e w' => e = .returned (.bool true) ∧ Below w.heap.size w w' := by
  have co := cold_any
  have cf := free_cold
  have c0 := fun W : World => long4_any a b c ao cap L false W (.inr ⟨k1, rfl⟩)
  have d0 := fun W : World => long4_any a' b' c' bo cap' M false W (.inr ⟨k2, rfl⟩)
  have cs := fun (W : World) (h : LiesO W go G) => small4_any go gc G true W h (by omega) (.inl ⟨k4, rfl⟩)
  have i1 : ¬ (G.length : Int) > 100 := by omega
  have H0 := Lib.hid hm
  have K0 := Lib.hid hn
  have G0 := Lib.hid hg
  clear hm hn hg k1 k2 k3 k4
  have t2 : (n5 != n5) = false := by simp
  go_enter Try.func7, Try.ntmps7
  go_wp2_with (fail)
  refine (co _).mono ?_
  rintro e w1 ⟨⟨g1, rfl, hb1⟩, hw1⟩
  have bw1 : Below w.heap.size w w1 := bel2 hw1
  have F1 := Lib.hid (FW.n2a.later hw1)
  have E1 := Lib.hid (FW.n2b.later hw1)
  have H1 := Lib.hid (H0.out.later bw1)
  have K1 := Lib.hid (K0.out.later bw1)
  have G1 := Lib.hid (G0.out.later bw1)
  have HB1 := Lib.hid bw1
  have CL1 := Lib.hid hb1
  clear hb1
  clear hw1 bw1 H0 K0 G0
  go_wp2_with (fail)
  refine (cf _ _ (CL1.out)).mono ?_
  rintro e w2 ⟨rfl, hw2⟩
  have bw2 : Below w1.heap.size w1 w2 := hw2
  have H2 := Lib.hid (H1.out.later bw2)
  have K2 := Lib.hid (K1.out.later bw2)
  have G2 := Lib.hid (G1.out.later bw2)
  have F2 := Lib.hid (F1.out.later bw2)
  have E2 := Lib.hid (E1.out.later bw2)
  have CL2 := Lib.hid (CL1.out.later bw2)
  have HB2 := Lib.hid (HB1.out.trans (bw2.mono HB1.out.size))
  clear hw2 bw2 H1 K1 G1 F1 E1 CL1 HB1
  clear CL2
  obtain ⟨f2_0, f2_1, f2_2, f2_3, f2_4, f2_5⟩ := F2.out
  go_wp2_with (fail)
  refine (c0 _).mono ?_
  rintro e w3 ⟨rfl, hw3⟩
  clear f2_0 f2_1 f2_2 f2_3 f2_4 f2_5
  have bw3 : Below w2.heap.size w2 w3 := hw3
  have H3 := Lib.hid (H2.out.later bw3)
  have K3 := Lib.hid (K2.out.later bw3)
  have G3 := Lib.hid (G2.out.later bw3)
  have F3 := Lib.hid (F2.out.later bw3)
  have E3 := Lib.hid (E2.out.later bw3)
  have HB3 := Lib.hid (HB2.out.trans (bw3.mono HB2.out.size))
  clear hw3 bw3 H2 K2 G2 F2 E2 HB2
  obtain ⟨e3_0, e3_1, e3_2, e3_3, e3_4, e3_5⟩ := E3.out
  go_wp2_with (fail)
  refine (d0 _).mono ?_
  rintro e w4 ⟨rfl, hw4⟩
  clear e3_0 e3_1 e3_2 e3_3 e3_4 e3_5
  have bw4 : Below w3.heap.size w3 w4 := hw4
  have H4 := Lib.hid (H3.out.later bw4)
  have K4 := Lib.hid (K3.out.later bw4)
  have G4 := Lib.hid (G3.out.later bw4)
  have F4 := Lib.hid (F3.out.later bw4)
  have E4 := Lib.hid (E3.out.later bw4)
  have HB4 := Lib.hid (HB3.out.trans (bw4.mono HB3.out.size))
  clear hw4 bw4 H3 K3 G3 F3 E3 HB3
  go_wp2_with (fail)
  refine (cs _ (G4.out)).mono ?_
  rintro e w5 ⟨rfl, hw5⟩
  have bw5 : Below w4.heap.size w4 w5 := hw5
  have H5 := Lib.hid (H4.out.later bw5)
  have K5 := Lib.hid (K4.out.later bw5)
  have G5 := Lib.hid (G4.out.later bw5)
  have F5 := Lib.hid (F4.out.later bw5)
  have E5 := Lib.hid (E4.out.later bw5)
  have HB5 := Lib.hid (HB4.out.trans (bw5.mono HB4.out.size))
  clear hw5 bw5 H4 K4 G4 F4 E4 HB4
  obtain ⟨f5_0, f5_1, f5_2, f5_3, f5_4, f5_5⟩ := F5.out
  obtain ⟨e5_0, e5_1, e5_2, e5_3, e5_4, e5_5⟩ := E5.out
  go_wp2_with (fail)
  refine (c1 _ (H5.out) (K5.out)).mono ?_
  rintro e w6 ⟨⟨q, rfl, hP⟩, hw6⟩
  clear f5_0 f5_1 f5_2 f5_3 f5_4 f5_5 e5_0 e5_1 e5_2 e5_3 e5_4 e5_5
  have bw6 : Below w5.heap.size w5 w6 := hw6
  have H6 := Lib.hid (H5.out.later bw6)
  have K6 := Lib.hid (K5.out.later bw6)
  have G6 := Lib.hid (G5.out.later bw6)
  have F6 := Lib.hid (F5.out.later bw6)
  have E6 := Lib.hid (E5.out.later bw6)
  have HB6 := Lib.hid (HB5.out.trans (bw6.mono HB5.out.size))
  clear hw6 bw6 H5 K5 G5 F5 E5 HB5
  obtain ⟨f6_0, f6_1, f6_2, f6_3, f6_4, f6_5⟩ := F6.out
  obtain ⟨e6_0, e6_1, e6_2, e6_3, e6_4, e6_5⟩ := E6.out
  go_wp2_with (fail)
  refine (c2 _ (H6.out.later ba1) (K6.out.later ba1)).mono ?_
  rintro e w7 ⟨rfl, hw7⟩
  clear f6_0 f6_1 f6_2 f6_3 f6_4 f6_5 e6_0 e6_1 e6_2 e6_3 e6_4 e6_5
  have bw7 : Below w6.heap.size w6 w7 := bel1 hw7
  have QA7 := Lib.hid (C4.n1.later hw7)
  have H7 := Lib.hid (H6.out.later bw7)
  have K7 := Lib.hid (K6.out.later bw7)
  have G7 := Lib.hid (G6.out.later bw7)
  have F7 := Lib.hid (F6.out.later bw7)
  have E7 := Lib.hid (E6.out.later bw7)
  have HB7 := Lib.hid (HB6.out.trans (bw7.mono HB6.out.size))
  clear hw7 bw7 H6 K6 G6 F6 E6 HB6
  obtain ⟨f7_0, f7_1, f7_2, f7_3, f7_4, f7_5⟩ := F7.out
  obtain ⟨e7_0, e7_1, e7_2, e7_3, e7_4, e7_5⟩ := E7.out
  obtain ⟨qa7_0, qa7_1, qa7_2, qa7_3, qa7_4, qa7_5⟩ := QA7.out
  go_wp2_with (fail)
  refine (c3 _ q hP.out (H7.out) (K7.out)).mono ?_
  rintro e w8 ⟨rfl, hw8⟩
  clear f7_0 f7_1 f7_2 f7_3 f7_4 f7_5 e7_0 e7_1 e7_2 e7_3 e7_4 e7_5 qa7_0 qa7_1 qa7_2 qa7_3 qa7_4 qa7_5
  have bw8 : Below w7.heap.size w7 w8 := hw8
  have H8 := Lib.hid (H7.out.later bw8)
  have K8 := Lib.hid (K7.out.later bw8)
  have G8 := Lib.hid (G7.out.later bw8)
  have F8 := Lib.hid (F7.out.later bw8)
  have E8 := Lib.hid (E7.out.later bw8)
  have QA8 := Lib.hid (QA7.out.later bw8)
  have HB8 := Lib.hid (HB7.out.trans (bw8.mono HB7.out.size))
  clear hw8 bw8 H7 K7 G7 F7 E7 QA7 HB7
  obtain ⟨f8_0, f8_1, f8_2, f8_3, f8_4, f8_5⟩ := F8.out
  go_wp2_with (fail)
  refine (c4 _ (H8.out) (G8.out)).mono ?_
  rintro e w9 ⟨⟨gT, kT, rfl, hbT⟩, hw9⟩
  clear f8_0 f8_1 f8_2 f8_3 f8_4 f8_5
  have bw9 : Below w8.heap.size w8 w9 := hw9
  have H9 := Lib.hid (H8.out.later bw9)
  have K9 := Lib.hid (K8.out.later bw9)
  have G9 := Lib.hid (G8.out.later bw9)
  have F9 := Lib.hid (F8.out.later bw9)
  have E9 := Lib.hid (E8.out.later bw9)
  have QA9 := Lib.hid (QA8.out.later bw9)
  have HB9 := Lib.hid (HB8.out.trans (bw9.mono HB8.out.size))
  have TT9 := Lib.hid hbT
  clear hbT
  clear hw9 bw9 H8 K8 G8 F8 E8 QA8 HB8
  obtain ⟨f9_0, f9_1, f9_2, f9_3, f9_4, f9_5⟩ := F9.out
  go_wp2_with (fail)
  refine (c5 _ (H9.out.later ba1)).mono ?_
  rintro e w10 ⟨rfl, hw10⟩
  clear f9_0 f9_1 f9_2 f9_3 f9_4 f9_5
  have bw10 : Below w9.heap.size w9 w10 := bel1 hw10
  have TF10 := Lib.hid (FW.n1.later hw10)
  have H10 := Lib.hid (H9.out.later bw10)
  have K10 := Lib.hid (K9.out.later bw10)
  have G10 := Lib.hid (G9.out.later bw10)
  have F10 := Lib.hid (F9.out.later bw10)
  have E10 := Lib.hid (E9.out.later bw10)
  have QA10 := Lib.hid (QA9.out.later bw10)
  have TT10 := Lib.hid (TT9.out.later bw10)
  have HB10 := Lib.hid (HB9.out.trans (bw10.mono HB9.out.size))
  clear hw10 bw10 H9 K9 G9 F9 E9 QA9 TT9 HB9
  obtain ⟨tf10_0, tf10_1, tf10_2, tf10_3, tf10_4, tf10_5⟩ := TF10.out
  go_wp2_with (fail)
  refine (c6 _ _ _ (TT10.out)).mono ?_
  rintro e w11 ⟨rfl, hw11⟩
  clear tf10_0 tf10_1 tf10_2 tf10_3 tf10_4 tf10_5
  have bw11 : Below w10.heap.size w10 w11 := hw11
  have H11 := Lib.hid (H10.out.later bw11)
  have K11 := Lib.hid (K10.out.later bw11)
  have G11 := Lib.hid (G10.out.later bw11)
  have F11 := Lib.hid (F10.out.later bw11)
  have E11 := Lib.hid (E10.out.later bw11)
  have QA11 := Lib.hid (QA10.out.later bw11)
  have TT11 := Lib.hid (TT10.out.later bw11)
  have TF11 := Lib.hid (TF10.out.later bw11)
  have HB11 := Lib.hid (HB10.out.trans (bw11.mono HB10.out.size))
  clear hw11 bw11 H10 K10 G10 F10 E10 QA10 TT10 TF10 HB10
  obtain ⟨f11_0, f11_1, f11_2, f11_3, f11_4, f11_5⟩ := F11.out
  go_wp2_with (fail)
  refine (c7 _ (H11.out)).mono ?_
  rintro e w12 ⟨⟨o7, j7, rfl, hb7⟩, hw12⟩
  clear f11_0 f11_1 f11_2 f11_3 f11_4 f11_5
  have bw12 : Below w11.heap.size w11 w12 := hw12
  have H12 := Lib.hid (H11.out.later bw12)
  have K12 := Lib.hid (K11.out.later bw12)
  have G12 := Lib.hid (G11.out.later bw12)
  have F12 := Lib.hid (F11.out.later bw12)
  have E12 := Lib.hid (E11.out.later bw12)
  have QA12 := Lib.hid (QA11.out.later bw12)
  have TT12 := Lib.hid (TT11.out.later bw12)
  have TF12 := Lib.hid (TF11.out.later bw12)
  have HB12 := Lib.hid (HB11.out.trans (bw12.mono HB11.out.size))
  have XA12 := Lib.hid hb7
  clear hb7
  clear hw12 bw12 H11 K11 G11 F11 E11 QA11 TT11 TF11 HB11
  obtain ⟨tf12_0, tf12_1, tf12_2, tf12_3, tf12_4, tf12_5⟩ := TF12.out
  go_wp2_with (fail)
  refine (c8 _ _ _ (TT12.out)).mono ?_
  rintro e w13 ⟨⟨o8, j8, rfl, hb8⟩, hw13⟩
  clear tf12_0 tf12_1 tf12_2 tf12_3 tf12_4 tf12_5
  have bw13 : Below w12.heap.size w12 w13 := hw13
  have H13 := Lib.hid (H12.out.later bw13)
  have K13 := Lib.hid (K12.out.later bw13)
  have G13 := Lib.hid (G12.out.later bw13)
  have F13 := Lib.hid (F12.out.later bw13)
  have E13 := Lib.hid (E12.out.later bw13)
  have QA13 := Lib.hid (QA12.out.later bw13)
  have TT13 := Lib.hid (TT12.out.later bw13)
  have TF13 := Lib.hid (TF12.out.later bw13)
  have XA13 := Lib.hid (XA12.out.later bw13)
  have HB13 := Lib.hid (HB12.out.trans (bw13.mono HB12.out.size))
  have XB13 := Lib.hid hb8
  clear hb8
  clear hw13 bw13 H12 K12 G12 F12 E12 QA12 TT12 TF12 XA12 HB12
  obtain ⟨f13_0, f13_1, f13_2, f13_3, f13_4, f13_5⟩ := F13.out
  obtain ⟨tf13_0, tf13_1, tf13_2, tf13_3, tf13_4, tf13_5⟩ := TF13.out
  go_wp2_with (fail)
  refine (c9 _ _ _ (H13.out) (TT13.out)).mono ?_
  rintro e w14 ⟨⟨p, rfl, hR⟩, hw14⟩
  clear f13_0 f13_1 f13_2 f13_3 f13_4 f13_5 tf13_0 tf13_1 tf13_2 tf13_3 tf13_4 tf13_5
  have bw14 : Below w13.heap.size w13 w14 := hw14
  have H14 := Lib.hid (H13.out.later bw14)
  have K14 := Lib.hid (K13.out.later bw14)
  have G14 := Lib.hid (G13.out.later bw14)
  have F14 := Lib.hid (F13.out.later bw14)
  have E14 := Lib.hid (E13.out.later bw14)
  have QA14 := Lib.hid (QA13.out.later bw14)
  have TT14 := Lib.hid (TT13.out.later bw14)
  have TF14 := Lib.hid (TF13.out.later bw14)
  have XA14 := Lib.hid (XA13.out.later bw14)
  have XB14 := Lib.hid (XB13.out.later bw14)
  have HB14 := Lib.hid (HB13.out.trans (bw14.mono HB13.out.size))
  clear hw14 bw14 H13 K13 G13 F13 E13 QA13 TT13 TF13 XA13 XB13 HB13
  obtain ⟨f14_0, f14_1, f14_2, f14_3, f14_4, f14_5⟩ := F14.out
  obtain ⟨tf14_0, tf14_1, tf14_2, tf14_3, tf14_4, tf14_5⟩ := TF14.out
  go_wp2_with (fail)
  refine (c10 _ p _ _ hR.out (H14.out.later ba1) (TT14.out.later ba1)).mono ?_
  rintro e w15 ⟨rfl, hw15⟩
  clear f14_0 f14_1 f14_2 f14_3 f14_4 f14_5 tf14_0 tf14_1 tf14_2 tf14_3 tf14_4 tf14_5
  have bw15 : Below w14.heap.size w14 w15 := bel1 hw15
  have QB15 := Lib.hid (C4.n1.later hw15)
  have H15 := Lib.hid (H14.out.later bw15)
  have K15 := Lib.hid (K14.out.later bw15)
  have G15 := Lib.hid (G14.out.later bw15)
  have F15 := Lib.hid (F14.out.later bw15)
  have E15 := Lib.hid (E14.out.later bw15)
  have QA15 := Lib.hid (QA14.out.later bw15)
  have TT15 := Lib.hid (TT14.out.later bw15)
  have TF15 := Lib.hid (TF14.out.later bw15)
  have XA15 := Lib.hid (XA14.out.later bw15)
  have XB15 := Lib.hid (XB14.out.later bw15)
  have HB15 := Lib.hid (HB14.out.trans (bw15.mono HB14.out.size))
  clear hw15 bw15 H14 K14 G14 F14 E14 QA14 TT14 TF14 XA14 XB14 HB14
  go_upto_if 159 with (fail)
  go_cut [18, 20] from 7 to 174 (fun s18 s20 wx => s18 = .slice o7 m j7 ∧ s20 = .slice o8 m j8 ∧ Hid (LiesOI wx o7 (rl X)) ∧ Hid (LiesOI wx o8 (rl X)) ∧ Hid (Below w.heap.size w wx))
  case first =>
    go_wp2
    go_meet
    exact ⟨rfl, rfl, XA15, XB15, HB15⟩
  case rest =>
    obtain ⟨rfl, rfl, XA, XB, HB⟩ := hcut
    clear c0 d0 cs co cf c1 c2 c3 c4 c5 c6 c7 c8 c9 c10 t2 
    as_aux_lemma =>
      have qT : ∀ (u1 u2 : Int) W, Sem.run Try.prog (Op.equalIn 10000 47 (.agg #[.int .i64 u1, .int .i64 u2]) (.agg #[.int .i64 u1, .int .i64 u2])) W = .ok true W := fun u1 u2 W => by simp [go_sem]
      go_wp2
      go_loopw [25] (fun q wr => ∃ i : Nat, i ≤ m ∧ q = .int .i64 i ∧ Hid (LiesOI wr o7 (rl X)) ∧ Hid (LiesOI wr o8 (rl X)) ∧ Hid (Below w.heap.size w wr)) (fun q _ => m - (intOf q).toNat)
      case atStart => exact ⟨0, by omega, rfl, XA, XB, HB⟩
      case round =>
        obtain ⟨i, hi, rfl, YA, YB, YW⟩ := hrel
        by_cases hlt : i < m
        · have ii : (i : Int) < (m : Int) := by omega
          obtain ⟨r, hr⟩ : ∃ r, X[i]? = some r := ⟨_, List.getElem?_eq_getElem (by rw [hX]; exact hlt)⟩
          obtain ⟨b7, f7, rfl, x0, x1⟩ := rlT_at YA.out hr
          obtain ⟨b8, f8, rfl, y0, y1⟩ := rlT_at YB.out hr
          have lx := World.block_lt_of_cell? _ _ x0
          have ly := World.block_lt_of_cell? _ _ y0
          have q1 := qT r.1 r.2
          have kc := @Tail.cell_re
          clear hr
          go_wp2
          refine Tail.region_below (by kernel_rfl) (by kernel_rfl) ?_
          repeat (go_big_quiet_step (fail))
          refine wpQuiet_nil ?_
          intro w2 hw2
          have ZA := Lib.hid (YA.out.later hw2)
          have ZB := Lib.hid (YB.out.later hw2)
          have ZW := Lib.hid (YW.out.trans (hw2.mono YW.out.size))
          clear x0 x1 y0 y1 lx ly hw2 YA YB YW q1 kc
          go_wp2
          exact ⟨⟨i + 1, by omega, by go_num, ZA, ZB, ZW⟩, by simp [intOf]; omega⟩
        · obtain rfl : i = m := by omega
          go_wp2
          go_ret
          exact ⟨rfl, YW.out⟩
/-- what the walks ask of the two given fields -/
theorem topA (a b c a' b' c' : Int) (ao bo : Option Addr) (cap cap' : Nat) (L M : List Q) (hlen : L.length ≤ 1000000) (hlen' : M.length ≤ 1000000) :
    (∃ r : Int, (∀ (W : World), LiesO W ao L → LiesO W bo M → Calls Try.prog 29 #[.agg #[.int .i64 a, .int .i64 b, .int .i64 c, .slice ao L.length cap], .agg #[.int .i64 a', .int .i64 b', .int .i64 c', .slice bo M.length cap']] W fun e w' => e = .returned (.tuple #[.agg #[.int .i64 0, .int .i64 0, .int .i64 0, .int .i64 0], .bool false, .int .i64 r]) ∧ Below W.heap.size W w') ∧
      (∀ (W : World), LiesO W ao L → LiesO W bo M → Calls Try.prog 15 #[.agg #[.int .i64 a, .int .i64 b, .int .i64 c, .slice ao L.length cap], .agg #[.int .i64 a', .int .i64 b', .int .i64 c', .slice bo M.length cap']] W fun e w' => e = .returned (.tuple #[.bool false, .int .i64 r]) ∧ Below W.heap.size W w')) ∨
    (∃ P : Q → Prop, (∀ (W : World), LiesO W ao L → LiesO W bo M → Calls Try.prog 29 #[.agg #[.int .i64 a, .int .i64 b, .int .i64 c, .slice ao L.length cap], .agg #[.int .i64 a', .int .i64 b', .int .i64 c', .slice bo M.length cap']] W fun e w' => (∃ q : Q, e = .returned (.tuple #[.agg #[.int .i64 q.a, .int .i64 q.b, .int .i64 q.c, .int .i64 q.d], .bool true, .int .i64 0]) ∧ Hid (P q)) ∧ Below W.heap.size W w') ∧
      (∀ (W : World), LiesO W ao L → LiesO W bo M → Calls Try.prog 15 #[.agg #[.int .i64 a, .int .i64 b, .int .i64 c, .slice ao L.length cap], .agg #[.int .i64 a', .int .i64 b', .int .i64 c', .slice bo M.length cap']] W fun e w' => e = .returned (.tuple #[.bool true, .int .i64 0]) ∧ Below W.heap.size W w') ∧
      (∀ (W : World) (q : Q), P q → LiesO W ao L → LiesO W bo M → Calls Try.prog 17 #[.agg #[.int .i64 a, .int .i64 b, .int .i64 c, .slice ao L.length cap], .agg #[.int .i64 a', .int .i64 b', .int .i64 c', .slice bo M.length cap'], .agg #[.int .i64 q.a, .int .i64 q.b, .int .i64 q.c, .int .i64 q.d]] W fun e w' => e = .returned (.int .i64 0) ∧ Below W.heap.size W w')) := by
  rcases bw_ans a b c a' b' c' ao bo cap cap' L M hlen hlen' with ⟨r, h0, hb⟩ | ⟨N, ms, ns, ⟨rfl, rfl, rfl⟩, hf, hf', hS, hS', hN⟩
  · exact .inl ⟨r, fun W j1 j2 => cert_err a b c a' b' c' r ao bo cap cap' L M W j1 j2 h0 hb, fun W j1 j2 => eqv_bad a b c a' b' c' r ao bo cap cap' L M h0 hb W j1 j2⟩
  · by_cases hq : ∃ q, carP (lpL a b c N L) (lpL a b c N M) q ∧ ¬ Z4 q
    · exact .inr ⟨Ce (lpL a b c N L) (lpL a b c N M), fun W j1 j2 => cert_yes a b c ao bo cap cap' N L M ms ns hf hf' hS hS' hN hq W j1 j2,
        fun W j1 j2 => eqv_good a b c ao bo cap cap' N L M ms ns hf hf' hS hS' hN true (.inl ⟨hq, rfl⟩) W j1 j2,
        fun W q h j1 j2 => ck_yes a b c ao bo cap cap' N L M ms ns hf hf' hS hS' hN W q h j1 j2⟩
    · exact .inl ⟨0, fun W j1 j2 => cert_not a b c ao bo cap cap' N L M ms ns hf hf' hS hS' hN hq W j1 j2,
        fun W j1 j2 => eqv_good a b c ao bo cap cap' N L M ms ns hf hf' hS hS' hN false (.inr ⟨hq, rfl⟩) W j1 j2⟩
theorem topGauge_walk (a b c : Int) (ao : Option Addr) (L : List Q) (cap : Nat) (a' b' c' : Int) (bo : Option Addr) (M : List Q) (cap' : Nat) (go : Option Addr) (G : List Q) (gc : Nat) (w : World) (_ : L.length ≤ maxLen) (hm : LiesO w ao L) (_ : M.length ≤ maxLen) (hn : LiesO w bo M) (_ : G.length ≤ maxLen) (hg : LiesO w go G) : Calls Try.prog 7 #[.agg #[.int .i64 a, .int .i64 b, .int .i64 c, .slice ao L.length cap], .agg #[.int .i64 a', .int .i64 b', .int .i64 c', .slice bo M.length cap'], .slice go G.length gc] w fun e w' => e = .returned (.bool true) ∧ Below w.heap.size w w' := by
  by_cases h : 200 < L.length
  · exact tGa_l1 a b c a' b' c' ao bo go cap cap' gc L M G w h
  by_cases h2 : 200 < M.length
  · exact tGa_l2 a b c a' b' c' ao bo go cap cap' gc L M G w (by omega) h2
  by_cases h3 : 100 < G.length
  · exact tGa_l3 a b c a' b' c' ao bo go cap cap' gc L M G w (by omega) (by omega) h3
  by_cases h4 : N12L G
  case neg => exact tGa_l4 a b c a' b' c' ao bo go cap cap' gc L M G w (by omega) (by omega) (by omega) hg h4
  have hA := topA a b c a' b' c' ao bo cap cap' L M (by omega) (by omega)
  obtain ⟨r4, c4⟩ := trf_any a b c ao go cap gc L G (by omega) (by omega)
  obtain ⟨n5, r5, c5⟩ := free_det a b c ao cap L (by omega)
  by_cases z4 : r4 = 0
  case neg =>
    rcases hA with ⟨r, d1, d2⟩ | ⟨P, d1, d2, d3⟩
    · exact tGa_nt a b c a' b' c' r r4 n5 r5 ao bo go cap cap' gc L M G w (by omega) (by omega) (by omega) hm hn hg h4 z4 d1 d2 c4 c5
    · exact tGa_yt a b c a' b' c' r4 n5 r5 ao bo go cap cap' gc L M G w P (by omega) (by omega) (by omega) hm hn hg h4 z4 d1 d2 d3 c4 c5
  subst z4
  by_cases z5 : r5 = 0
  case neg =>
    rcases hA with ⟨r, d1, d2⟩ | ⟨P, d1, d2, d3⟩
    · exact tGa_nf a b c a' b' c' r n5 r5 ao bo go cap cap' gc L M G w (by omega) (by omega) (by omega) hm hn hg h4 z5 d1 d2 c4 c5
    · exact tGa_yf a b c a' b' c' n5 r5 ao bo go cap cap' gc L M G w P (by omega) (by omega) (by omega) hm hn hg h4 z5 d1 d2 d3 c4 c5
  subst z5
  -- Freedom refuses, or the field is of small units
  rcases bw_ans a b c a b c ao ao cap cap L L (by omega) (by omega) with ⟨r, h0, hb⟩ | ⟨N, ms, ns, -, hf, -, hS, -, hN⟩
  · have c5' := fun (W : World) (k1 : LiesO W ao L) => free_err a b c r ao cap L W k1 h0 (fun W j1 j2 => hb W j1 j2)
    rcases hA with ⟨r', d1, d2⟩ | ⟨P, d1, d2, d3⟩
    · exact tGa_nf a b c a' b' c' r' 0 r ao bo go cap cap' gc L M G w (by omega) (by omega) (by omega) hm hn hg h4 h0 d1 d2 c4 c5'
    · exact tGa_yf a b c a' b' c' 0 r ao bo go cap cap' gc L M G w P (by omega) (by omega) (by omega) hm hn hg h4 h0 d1 d2 d3 c4 c5'
  obtain ⟨r2, hr2⟩ := gaR_ex a b c L G
  by_cases z2 : r2 = 0
  case neg =>
    have c4' : ∀ W : World, LiesO W ao L → LiesO W go G → Calls Try.prog 13 #[.agg #[.int .i64 a, .int .i64 b, .int .i64 c, .slice ao L.length cap], .slice go G.length gc] W fun e w' => AnyF r2 e ∧ Below W.heap.size W w' := fun W k1 k2 => (gaT_bad a b c r2 ao go cap gc L G W k1 k2 hr2 z2 (by omega) (by omega)).mono fun e w' ⟨e1, hw⟩ => ⟨⟨_, _, _, _, _, _, e1⟩, hw⟩
    rcases hA with ⟨r, d1, d2⟩ | ⟨P, d1, d2, d3⟩
    · exact tGa_nt a b c a' b' c' r r2 n5 0 ao bo go cap cap' gc L M G w (by omega) (by omega) (by omega) hm hn hg h4 z2 d1 d2 c4' c5
    · exact tGa_yt a b c a' b' c' r2 n5 0 ao bo go cap cap' gc L M G w P (by omega) (by omega) (by omega) hm hn hg h4 z2 d1 d2 d3 c4' c5
  subst z2
  by_cases hE : ∃ B, BasE (lpL a b c N L) (lpL a b c N L) B
  case neg =>
    have c5' : ∀ W : World, LiesO W ao L → Calls Try.prog 27 #[.agg #[.int .i64 a, .int .i64 b, .int .i64 c, .slice ao L.length cap]] W fun e w' => e = .returned (.tuple #[.int .i64 0, .int .i64 1]) ∧ Below W.heap.size W w' := fun W k1 => (free_at a b c ao cap N L ms hf hS hN W k1).mono fun e w' ⟨⟨B, hB, he⟩, hw⟩ => absurd ⟨B, hB⟩ hE
    rcases hA with ⟨r, d1, d2⟩ | ⟨P, d1, d2, d3⟩
    · exact tGa_nf a b c a' b' c' r 0 1 ao bo go cap cap' gc L M G w (by omega) (by omega) (by omega) hm hn hg h4 (by decide) d1 d2 c4 c5'
    · exact tGa_yf a b c a' b' c' 0 1 ao bo go cap cap' gc L M G w P (by omega) (by omega) (by omega) hm hn hg h4 (by decide) d1 d2 d3 c4 c5'
  obtain ⟨B0, hB0⟩ := hE
  clear c5 c4
  have hF : Fl a b c L := ⟨(fldR_ok hf).1, (fldR_ok hf).2.1, (fldR_ok hf).2.2⟩
  have hz := hF.z
  have hnn := hF.n
  obtain ⟨-, -, p3, -⟩ := mul_rng hz.a1 hz.a4 hz.b1 hz.b4 hz.c1 hz.c4
  have hS0 : AllS L := AllS.num hS
  have hgn := (gaR_ok hr2).2.1
  have hG : AllS G := fun i x hx => ⟨((gaR_ok hr2).2.2 i x hx).1, (h4 i x hx).2⟩
  have hgN : G.length = N := by omega
  have hT := AllS.tf hz hnn hgn hS0 hG
  have hl2 : (tfL a b c L G).length = L.length := tfL_len _ _ _ _ _
  have hfl2 : fldR a b c (tfL a b c L G) 0 := fldR_small hz (by rw [hl2]; exact hnn) hT
  have hF2 : Fl a b c (tfL a b c L G) := ⟨(fldR_ok hfl2).1, (fldR_ok hfl2).2.1, (fldR_ok hfl2).2.2⟩
  obtain ⟨ns2, hq2⟩ := smR_all hT
  have s0 : Sm2 (lk G 0) := hG.lk (by omega) (by omega)
  have e5 := lp_tf hF hN hgN hS0 hG
  obtain ⟨hX, hX48⟩ := lp_good hF hS0 hN
  have hcar : carP (lpL a b c N L) (lpL a b c N (tfL a b c L G)) (lk G 0) := by rw [e5]; exact car_cj hX s0.1.u
  have hnz : ¬ Z4 (lk G 0) := fun hzz => by
    have h1 := s0.1.u.len
    have h2 := s0.1.u.pos
    obtain ⟨z1, z2, z3, z4⟩ := hzz
    rw [z1, z2, z3, z4] at h1
    have := Int.mul_pos h2 h2
    omega
  have hq : ∃ q, carP (lpL a b c N L) (lpL a b c N (tfL a b c L G)) q ∧ ¬ Z4 q := ⟨_, hcar, hnz⟩
  have c4 : ∀ W : World, LiesO W ao L → LiesO W go G → Calls Try.prog 13 #[.agg #[.int .i64 a, .int .i64 b, .int .i64 c, .slice ao L.length cap], .slice go G.length gc] W fun e w' => RetTf a b c L.length (tfL a b c L G) e w' ∧ Below W.heap.size W w' := fun W k1 k2 => by
    obtain ⟨b1, o1, rfl, m1⟩ := liesO_one k1 (by omega)
    obtain ⟨b2, o2, rfl, m2⟩ := liesO_one k2 (by omega)
    exact gaT_lim a b c b1 o1 b2 o2 cap gc L G W m1 m2 hr2 hT.lim
  have c5 : ∀ W : World, LiesO W ao L → Calls Try.prog 27 #[.agg #[.int .i64 a, .int .i64 b, .int .i64 c, .slice ao L.length cap]] W fun e w' => e = .returned (.tuple #[.int .i64 (B0.length : Int), .int .i64 0]) ∧ Below W.heap.size W w' := fun W k1 => (free_at a b c ao cap N L ms hf hS hN W k1).mono fun e w' ⟨⟨B, hB, he⟩, hw⟩ => ⟨by rw [he, hB.one hB0], hw⟩
  have c6 : ∀ (W : World) (g k : Nat), LBox W g (tfL a b c L G) → Calls Try.prog 27 #[.agg #[.int .i64 a, .int .i64 b, .int .i64 c, .slice (some ⟨g, 0, none⟩) L.length k]] W fun e w' => e = .returned (.tuple #[.int .i64 (B0.length : Int), .int .i64 0]) ∧ Below W.heap.size W w' := fun W g k k1 => by
    have := free_at a b c (some ⟨g, 0, none⟩) k N (tfL a b c L G) ns2 hfl2 hq2 hN W (.inr ⟨g, 0, rfl, k1.h⟩)
    rw [hl2] at this
    refine this.mono fun e w' ⟨⟨B, hB, he⟩, hw⟩ => ⟨?_, hw⟩
    rw [e5] at hB
    rw [he, free_same hX s0 hB0 hB]
  have c7 : ∀ W : World, LiesO W ao L → Calls Try.prog 30 #[.agg #[.int .i64 a, .int .i64 b, .int .i64 c, .slice ao L.length cap]] W fun e w' => (∃ (o : Option Addr) (k : Nat), e = .returned (.tuple #[.slice o (3 * N) k, .int .i64 0]) ∧ LiesOI w' o (rl (trs a b c L (3 * N)))) ∧ Below W.heap.size W w' := fun W k1 => by
    obtain ⟨b1, o1, rfl, m1⟩ := liesO_one k1 (by omega)
    exact tracesL_ok a b c b1 o1 cap N L W m1 hF hN
  have c8 : ∀ (W : World) (g k : Nat), LBox W g (tfL a b c L G) → Calls Try.prog 30 #[.agg #[.int .i64 a, .int .i64 b, .int .i64 c, .slice (some ⟨g, 0, none⟩) L.length k]] W fun e w' => (∃ (o : Option Addr) (k : Nat), e = .returned (.tuple #[.slice o (3 * N) k, .int .i64 0]) ∧ LiesOI w' o (rl (trs a b c L (3 * N)))) ∧ Below W.heap.size W w' := fun W g k k1 => by
    have := tracesL_ok a b c g 0 k N (tfL a b c L G) W k1.h hF2 hN
    rw [hl2, trs_tf hF hN (gaR_Gg hr2)] at this
    exact this
  have c9 : ∀ (W : World) (g k : Nat), LiesO W ao L → LBox W g (tfL a b c L G) → Calls Try.prog 29 #[.agg #[.int .i64 a, .int .i64 b, .int .i64 c, .slice ao L.length cap], .agg #[.int .i64 a, .int .i64 b, .int .i64 c, .slice (some ⟨g, 0, none⟩) L.length k]] W fun e w' => (∃ q : Q, e = .returned (.tuple #[.agg #[.int .i64 q.a, .int .i64 q.b, .int .i64 q.c, .int .i64 q.d], .bool true, .int .i64 0]) ∧ Hid (Ce (lpL a b c N L) (lpL a b c N (tfL a b c L G)) q)) ∧ Below W.heap.size W w' := fun W g k k1 k2 => by
    have := cert_yes a b c ao (some ⟨g, 0, none⟩) cap k N L (tfL a b c L G) ms ns2 hf hfl2 hS hq2 hN hq W k1 (.inr ⟨g, 0, rfl, k2.h⟩)
    rw [hl2] at this
    exact this
  have c10 : ∀ (W : World) (q : Q) (g k : Nat), Ce (lpL a b c N L) (lpL a b c N (tfL a b c L G)) q → LiesO W ao L → LBox W g (tfL a b c L G) → Calls Try.prog 17 #[.agg #[.int .i64 a, .int .i64 b, .int .i64 c, .slice ao L.length cap], .agg #[.int .i64 a, .int .i64 b, .int .i64 c, .slice (some ⟨g, 0, none⟩) L.length k], .agg #[.int .i64 q.a, .int .i64 q.b, .int .i64 q.c, .int .i64 q.d]] W fun e w' => e = .returned (.int .i64 0) ∧ Below W.heap.size W w' := fun W q g k h k1 k2 => by
    have := ck_yes a b c ao (some ⟨g, 0, none⟩) cap k N L (tfL a b c L G) ms ns2 hf hfl2 hS hq2 hN W q h k1 (.inr ⟨g, 0, rfl, k2.h⟩)
    rw [hl2] at this
    exact this
  have hXl : (trs a b c L (3 * N)).length = 3 * N := by unfold trs; rw [List.length_map]; exact pqs_len a b c L (3 * N)
  rcases hA with ⟨r, d1, d2⟩ | ⟨P, d1, d2, d3⟩
  · exact tGa_ng a b c a' b' c' r B0.length ao bo go cap cap' gc L M G w (tfL a b c L G) (3 * N) (trs a b c L (3 * N)) _ (by omega) (by omega) (by omega) hm hn hg h4 hXl (by omega) d1 d2 c4 c5 c6 c7 c8 c9 c10
  · exact tGa_yg a b c a' b' c' B0.length ao bo go cap cap' gc L M G w P (tfL a b c L G) (3 * N) (trs a b c L (3 * N)) _ (by omega) (by omega) (by omega) hm hn hg h4 hXl (by omega) d1 d2 d3 c4 c5 c6 c7 c8 c9 c10

/-! ### The statement of the law TopGauge, out of its walk -/
set_option maxRecDepth 100000 in
theorem topGauge_lifted (os : Os) (started : os.Started) (H : Type) (enc : TypeId × Value → H) :
    ReturnsInHanded {} Try.checked os 7 .any (Rows.topGaugeSpec.pre6 enc Try.prog Try.f7 Rows.topGaugeRow.domain false) (Rows.topGaugeSpec.post enc Try.prog Try.f7 false true false false) := by
  refine returnsInHanded_of_change (C := Try.checked) own started (by kernel_rfl) Try.func7
    (ChangeSpec.witness6 (enc := enc) (C := Try.checked) false ⟨#[], #[.agg #[.int .i64 0, .int .i64 0, .int .i64 0, .slice none 0 0], .agg #[.int .i64 0, .int .i64 0, .int .i64 0, .slice none 0 0], .slice none 0 0], []⟩ 8 (by kernel_rfl) (by kernel_rfl) (by kernel_rfl) (by kernel_rfl)) ?_
  intro W base args ds gs before hval0 hW hcnd _
  have hval : ∀ (j : Nat) t v, Try.f7.params[j]? = some t → args[j]? = some v → Value.okWide Try.prog W .any base t v := hval0
  have hW' := hW
  obtain ⟨p, q, hA0, hV, rfl, hfz, hnd⟩ := hW
  have hA : DataW.TrodAll enc Try.prog W 0 (fun _ => true) true Try.f7.params.toList args.toList ds p := hA0
  rw [Try.params7] at hA hval
  obtain ⟨v0, vs0, d0, ds0, p0, q0, hargs, rfl, rfl, h0, r0⟩ := trodAll_cons hA
  obtain ⟨v1, vs1, d1, ds1, p1, q1, rfl, rfl, rfl, h1, r1⟩ := trodAll_cons r0
  obtain ⟨v2, vs2, d2, ds2, p2, q2, rfl, rfl, rfl, h2, r2⟩ := trodAll_cons r1
  obtain ⟨rfl, rfl, rfl⟩ := trodAll_nil r2
  obtain rfl : args = #[v0, v1, v2] := by cases args; simp_all
  obtain ⟨rfl, rfl⟩ := trodVars_none hV
  have k0 := h0
  have lt0 : ∀ x ∈ p0, x.block < W.heap.size := by obtain ⟨m, hm⟩ := k0; exact DataW.trod_lt m _ _ _ hm
  obtain ⟨x0, y0, z0, ao0, L0, cap0, rfl, hl0, hm0⟩ := open_field (hval 0 25 v0 rfl rfl) h0
  have k1 := h1
  have lt1 : ∀ x ∈ p1, x.block < W.heap.size := by obtain ⟨m, hm⟩ := k1; exact DataW.trod_lt m _ _ _ hm
  obtain ⟨x1, y1, z1, ao1, L1, cap1, rfl, hl1, hm1⟩ := open_field (hval 1 25 v1 rfl rfl) h1
  have k2 := h2
  have lt2 : ∀ x ∈ p2, x.block < W.heap.size := by obtain ⟨m, hm⟩ := k2; exact DataW.trod_lt m _ _ _ hm
  obtain ⟨ao2, L2, cap2, rfl, hl2, hm2⟩ := open_units (hval 2 23 v2 rfl rfl) h2
  clear hA0 hval0
  refine (topGauge_walk x0 y0 z0 ao0 L0 cap0 x1 y1 z1 ao1 L1 cap1 ao2 L2 cap2 W hl0 hm0 hl1 hm1 hl2 hm2).mono fun e W' ⟨he, bel⟩ => ?_
  subst he
  exact ⟨_, rfl, _, _, _, [], _, [], hW', trodAll_mk1 (shut_bool Try.underlying4 _), (trodAll_cons_mk (Below.trod laidOut (by kernel_rfl) (of_decide_eq_true (by kernel_rfl)) k0 bel lt0) (trodAll_cons_mk (Below.trod laidOut (by kernel_rfl) (of_decide_eq_true (by kernel_rfl)) k1 bel lt1) (trodAll_cons_mk (Below.trod laidOut (by kernel_rfl) (of_decide_eq_true (by kernel_rfl)) k2 bel lt2) trodAll_mk0))), rfl, bel.frame _, fun h => by cases h⟩

theorem topGauge_jf9 : (Rows.topGaugeRow.inPlace == Try.prog.inPlace 7) = true := by kernel_rfl
theorem topGauge_jf10 : (Rows.topGaugeRow.unfollowed == Try.prog.unfollowed 7) = true := by kernel_rfl
theorem topGauge_jf11 : (Rows.topGaugeRow.recurses == Try.prog.recurses 7) = true := by kernel_rfl
theorem topGauge_jf12 : (Rows.topGaugeRow.named == Try.prog.varsNamed 7) = true := by kernel_rfl
theorem topGauge_facts : joinedFacts Try.prog 7 Try.f7 Rows.topGaugeSpec Rows.topGaugeRow = true := by
  unfold joinedFacts
  exact (band (band (band (band (band (band (band (band (band (band (band (band (band (band (band (band (band (band (band (band (band (band (band (band (band (band (band (band (band (band (band (by kernel_rfl) jf1) jf2) (by kernel_rfl)) (by kernel_rfl)) (by kernel_rfl)) jf6) (by kernel_rfl)) jf8) topGauge_jf9) topGauge_jf10) topGauge_jf11) topGauge_jf12) (by kernel_rfl)) (by kernel_rfl)) (by kernel_rfl)) (by kernel_rfl)) (by kernel_rfl)) (by kernel_rfl)) (by kernel_rfl)) (by kernel_rfl)) (by kernel_rfl)) (by kernel_rfl)) (by kernel_rfl)) jf24) jf25) jf26) jf27) (by kernel_rfl)) (by kernel_rfl)) (by kernel_rfl)) (by kernel_rfl))

theorem topGauge_over : Rows.topGaugeRow.holds Try.pinned (OpenSpec.ofChange Rows.topGaugeSpec) :=
  OpenClaim.holds_of_wide 7 Try.f7 rfl rfl rfl rfl rfl rfl rfl ⟨rfl, rfl, rfl, rfl, rfl⟩ rfl rfl rfl rfl rfl (by kernel_rfl) Try.func7 topGauge_facts
    (of_decide_eq_true (by kernel_rfl)) (by unfold Func.isWrapper; first | (rw [if_pos (by decide +kernel)]; kernel_rfl) | (rw [if_neg (by decide +kernel)]; exact ⟨rfl, rfl⟩))
    (fun os started H enc _ => topGauge_lifted os started H enc)

theorem topGauge_holds : Rows.TopGaugeSaid := topGauge_over
#print axioms topGauge_holds

end Go.Proofs.Ytojmagooapjohaa
