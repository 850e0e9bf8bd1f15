/- The solver of the operator: the hopping makes no vector more than 12 times as long, and what each step keeps (mathematics).
Conditions: none. -/
import Derived.Test.YtojmagooapjohaaFtM
set_option autoImplicit false
set_option maxRecDepth 1000000
namespace Fm
set_option linter.unusedVariables false
set_option linter.unusedSimpArgs false
open Um Tm Go.RowKit

/-- the sum of the first m -/
def sumN (g : Nat → Int) : Nat → Int
  | 0 => 0
  | m + 1 => sumN g m + g m
theorem sumN_congr {g h : Nat → Int} : ∀ m, (∀ s, s < m → g s = h s) → sumN g m = sumN h m
  | 0, _ => rfl
  | m + 1, k => by show sumN g m + g m = sumN h m + h m; rw [sumN_congr m (fun s hs => k s (by omega)), k m (by omega)]
theorem sumN_le {g h : Nat → Int} : ∀ m, (∀ s, s < m → g s ≤ h s) → sumN g m ≤ sumN h m
  | 0, _ => Int.le_refl _
  | m + 1, k => by
    show sumN g m + g m ≤ sumN h m + h m
    have := sumN_le m (fun s hs => k s (by omega))
    have := k m (by omega)
    omega
theorem sumN_lin (j k : Int) (g h : Nat → Int) : ∀ m, sumN (fun s => j * g s + k * h s) m = j * sumN g m + k * sumN h m
  | 0 => by show (0 : Int) = j * 0 + k * 0; omega
  | m + 1 => by
    show sumN (fun s => j * g s + k * h s) m + (j * g m + k * h m) = j * (sumN g m + g m) + k * (sumN h m + h m)
    rw [sumN_lin j k g h m]; grind
theorem sumN_zero : ∀ m, sumN (fun _ => 0) m = 0
  | 0 => rfl
  | m + 1 => by show sumN (fun _ => 0) m + 0 = 0; rw [sumN_zero m]; rfl
theorem sumN_if (t : Nat) (y : Nat → Int) : ∀ m, sumN (fun s => if t = s then y s else 0) m = if t < m then y t else 0
  | 0 => rfl
  | m + 1 => by
    show sumN (fun s => if t = s then y s else 0) m + (if t = m then y m else 0) = _
    rw [sumN_if t y m]
    by_cases h1 : t = m
    · subst h1; rw [if_neg (by omega), if_pos rfl, if_pos (by omega)]; omega
    · by_cases h2 : t < m
      · rw [if_pos h2, if_neg h1, if_pos (by omega)]; omega
      · rw [if_neg h2, if_neg h1, if_neg (by omega)]; omega
theorem sumN_sq (f : Nat → Sp) : ∀ m, sqF f m = sumN (fun s => dot4 (f s) (f s)) m
  | 0 => rfl
  | m + 1 => by show sqF f m + _ = sumN _ m + _; rw [sumN_sq f m]
theorem sumN_nn {g : Nat → Int} : ∀ m, (∀ s, s < m → 0 ≤ g s) → 0 ≤ sumN g m := fun m h => by
  have := sumN_le (g := fun _ => 0) (h := g) m h
  rwa [sumN_zero] at this
/-- how many of the first m are t -/
def cnt (l : Nat → Nat) : Nat → Nat → Nat
  | 0, _ => 0
  | m + 1, t => cnt l m t + (if l m = t then 1 else 0)
theorem sum_by (l : Nat → Nat) (g : Nat → Int) (n : Nat) : ∀ m, (∀ k, k < m → l k < n) → sumN (fun k => g (l k)) m = sumN (fun t => (cnt l m t : Int) * g t) n
  | 0, _ => by
    show (0 : Int) = sumN (fun t => ((0 : Nat) : Int) * g t) n
    rw [sumN_congr (h := fun _ => 0) n (fun s _ => by simp), sumN_zero]
  | m + 1, h => by
    show sumN (fun k => g (l k)) m + g (l m) = _
    rw [sum_by l g n m (fun k hk => h k (by omega))]
    have e : sumN (fun t => (cnt l (m + 1) t : Int) * g t) n = sumN (fun t => 1 * ((cnt l m t : Int) * g t) + 1 * (if l m = t then g t else 0)) n := sumN_congr n (fun s _ => by
      show ((cnt l m s + (if l m = s then 1 else 0) : Nat) : Int) * g s = _
      by_cases h1 : l m = s
      · rw [if_pos h1, if_pos h1]; push_cast; grind
      · rw [if_neg h1, if_neg h1]; simp)
    rw [e, sumN_lin, sumN_if, if_pos (h m (by omega))]
    omega
def cntB (a b c : Int) (n : Nat) : Bool := (List.range n).all fun t => decide (cnt (nxl a b c) (n * 3) t = 3 ∧ cnt (fun k => k / 3) (n * 3) t = 3)
def cntAll : Bool := (List.range 4).all fun a => (List.range 4).all fun b => (List.range 4).all fun c => decide (16 < (a + 1) * (b + 1) * (c + 1)) || cntB (a + 1) (b + 1) (c + 1) ((a + 1) * (b + 1) * (c + 1))
theorem cntAll_true : cntAll = true := by decide +kernel
theorem cnt_three {a b c : Int} {n : Nat} (hz : Sz a b c) (hn : (n : Int) = a * b * c) {t : Nat} (ht : t < n) : cnt (nxl a b c) (n * 3) t = 3 ∧ cnt (fun k => k / 3) (n * 3) t = 3 := by
  obtain ⟨a1, a4, b1, b4, c1, c4, hp⟩ := hz
  obtain ⟨A, rfl⟩ : ∃ A : Nat, a = ((A : Int) + 1) := ⟨(a - 1).toNat, by omega⟩
  obtain ⟨B, rfl⟩ : ∃ B : Nat, b = ((B : Int) + 1) := ⟨(b - 1).toNat, by omega⟩
  obtain ⟨C, rfl⟩ : ∃ C : Nat, c = ((C : Int) + 1) := ⟨(c - 1).toNat, by omega⟩
  have h := cntAll_true
  simp only [cntAll, List.all_eq_true, List.mem_range] at h
  have h2 := h A (by omega) B (by omega) C (by omega)
  have e : (((A + 1) * (B + 1) * (C + 1) : Nat) : Int) = ((A : Int) + 1) * ((B : Int) + 1) * ((C : Int) + 1) := by simp
  obtain rfl : n = (A + 1) * (B + 1) * (C + 1) := by omega
  have h3 : decide (16 < (A + 1) * (B + 1) * (C + 1)) = false := by
    rw [decide_eq_false_iff_not]
    omega
  rw [h3, Bool.false_or] at h2
  simp only [cntB, List.all_eq_true, List.mem_range, decide_eq_true_eq] at h2
  exact h2 t ht
theorem sum_nxl {a b c : Int} {n : Nat} (hz : Sz a b c) (hn : (n : Int) = a * b * c) (g : Nat → Int) : sumN (fun k => g (nxl a b c k)) (n * 3) = 3 * sumN g n ∧ sumN (fun k => g (k / 3)) (n * 3) = 3 * sumN g n := by
  have h1 := sum_by (nxl a b c) g n (n * 3) (fun k _ => by have := (nxl_rng hz k).2; omega)
  have h2 := sum_by (fun k => k / 3) g n (n * 3) (fun k _ => by omega)
  have e : ∀ u : Nat → Nat, (∀ t, t < n → u t = 3) → sumN (fun t => (u t : Int) * g t) n = 3 * sumN g n := fun u hu => by
    have := sumN_lin 3 0 g (fun _ => 0) n
    rw [sumN_congr (h := fun t => 3 * g t + 0 * 0) n (fun s hs => by rw [hu s hs]; simp), this]; omega
  rw [h1, h2, e _ (fun t ht => (cnt_three hz hn ht).1), e _ (fun t ht => (cnt_three hz hn ht).2)]
  exact ⟨rfl, rfl⟩
/-! ### the rows of arms -/
/-- the sum over arms -/
def rs (g : Nat → Int) : List Arm → Int
  | [] => 0
  | x :: l => g x.frm + rs g l
theorem rs_snoc (g : Nat → Int) (x : Arm) : ∀ l, rs g (l ++ [x]) = rs g l + g x.frm
  | [] => by show g x.frm + 0 = 0 + g x.frm; omega
  | y :: l => by show g y.frm + rs g (l ++ [x]) = g y.frm + rs g l + g x.frm; rw [rs_snoc g x l]; omega
theorem row_two {a b c : Int} (L : List Q) (s : Nat) : ∀ k, (row (arms a b c L k) s).length = cnt (nxl a b c) k s + cnt (fun k => k / 3) k s
  | 0 => rfl
  | k + 1 => by
    have e : arms a b c L (k + 1) = arms a b c L k ++ [arm1 a b c L k] ++ [arm2 a b c L k] := rfl
    have ih := row_two (a := a) (b := b) (c := c) L s k
    have key : ∀ (A : List Arm) (x : Arm), (row (A ++ [x]) s).length = (row A s).length + (if x.to = s then 1 else 0) := fun A x => by
      rw [row_snoc]; split
      · simp
      · simp
    rw [e, key, key, ih]
    show _ = cnt (nxl a b c) k s + (if nxl a b c k = s then 1 else 0) + (cnt (fun k => k / 3) k s + (if k / 3 = s then 1 else 0))
    show cnt (nxl a b c) k s + cnt (fun k => k / 3) k s + (if k / 3 = s then 1 else 0) + (if nxl a b c k = s then 1 else 0) = _
    omega
theorem rs_sum {a b c : Int} {n : Nat} (hz : Sz a b c) (hn : (n : Int) = a * b * c) (L : List Q) (g : Nat → Int) : ∀ k, k ≤ n * 3 → sumN (fun s => rs g (row (arms a b c L k) s)) n = sumN (fun k => g (nxl a b c k)) k + sumN (fun k => g (k / 3)) k
  | 0, _ => by
    show sumN (fun _ => 0) n = 0 + 0
    rw [sumN_zero]; rfl
  | k + 1, hk => by
    have e : arms a b c L (k + 1) = arms a b c L k ++ [arm1 a b c L k] ++ [arm2 a b c L k] := rfl
    have ih := rs_sum hz hn L g k (by omega)
    have ht := (nxl_rng hz k).2
    have key : ∀ (A : List Arm) (x : Arm), x.to < n → sumN (fun s => rs g (row (A ++ [x]) s)) n = sumN (fun s => rs g (row A s)) n + g x.frm := fun A x hx => by
      rw [sumN_congr (h := fun s => 1 * rs g (row A s) + 1 * (if x.to = s then g x.frm else 0)) n (fun s _ => by
        rw [row_snoc]
        by_cases h : x.to = s
        · rw [if_pos h, if_pos h, rs_snoc]; omega
        · rw [if_neg h, if_neg h]; omega), sumN_lin, sumN_if x.to (fun _ => g x.frm), if_pos hx]
      omega
    rw [e, key _ _ (show nxl a b c k < n by omega), key _ _ (show k / 3 < n by omega), ih]
    show _ = sumN (fun k => g (nxl a b c k)) k + g (nxl a b c k) + (sumN (fun k => g (k / 3)) k + g (k / 3))
    show _ + g (nxl a b c k) + g (k / 3) = _
    omega
theorem addS_assoc (p q r : Sp) : addS (addS p q) r = addS p (addS q r) := by
  refine ext_S ?_ ?_ ?_ ?_ <;> simp only [addS] <;> omega
theorem accF_start (f : Nat → Sp) : ∀ (R : List Arm) (t : Sp), accF f t R = addS t (accF f zs R)
  | [], t => by show t = addS t zs; refine ext_S ?_ ?_ ?_ ?_ <;> simp [addS, zs]
  | x :: R, t => by
    show accF f (addS t (mulS x.q (f x.frm))) R = addS t (accF f (addS zs (mulS x.q (f x.frm))) R)
    rw [accF_start f R, accF_start f R (addS zs _), addS_zero, addS_assoc]
theorem sq_nn (x : Int) : 0 ≤ x * x := by
  rcases Int.le_total 0 x with h | h
  · exact Int.mul_nonneg h h
  · exact Int.mul_nonneg_of_nonpos_of_nonpos h h
theorem dot4_zero {p : Sp} (h : dot4 p p ≤ 0) : p = zs := by
  have h1 := sq_nn p.a
  have h2 := sq_nn p.b
  have h3 := sq_nn p.c
  have h4 := sq_nn p.d
  have e : dot4 p p = p.a * p.a + p.b * p.b + p.c * p.c + p.d * p.d := rfl
  have z : ∀ x : Int, x * x ≤ 0 → x = 0 := fun x hx => by
    have : x * x = 0 := by have := sq_nn x; omega
    rcases Int.mul_eq_zero.1 this with h | h <;> exact h
  exact ext_S (z _ (by omega)) (z _ (by omega)) (z _ (by omega)) (z _ (by omega))
theorem cauchy1 (k : Nat) (v S : Sp) (T : Int) (hT : 0 ≤ T) (h : dot4 S S ≤ k * T) : dot4 (addS v S) (addS v S) ≤ (k + 1 : Nat) * (dot4 v v + T) := by
  have e1 : dot4 (addS v S) (addS v S) = dot4 v v + 2 * dot4 v S + dot4 S S := by unfold dot4 addS; grind
  have key : 2 * dot4 v S ≤ k * dot4 v v + T := by
    by_cases hk : k = 0
    · subst hk
      have : S = zs := dot4_zero (by simpa using h)
      subst this
      have : dot4 v zs = 0 := by unfold dot4 zs; simp
      rw [this]; simp; exact hT
    · have hp : (0 : Int) < k := by omega
      have h2 := dot4_nn (addS (smS k v) (smS (-1) S))
      have e2 : dot4 (addS (smS k v) (smS (-1) S)) (addS (smS k v) (smS (-1) S)) = k * (k * dot4 v v) - k * (2 * dot4 v S) + dot4 S S := by unfold dot4 addS smS; grind
      have h3 : 0 ≤ k * (k * dot4 v v + T - 2 * dot4 v S) := by
        have : (k : Int) * (k * dot4 v v + T - 2 * dot4 v S) = k * (k * dot4 v v) - k * (2 * dot4 v S) + k * T := by grind
        rw [this]; omega
      have := Int.nonneg_of_mul_nonneg_right h3 hp
      omega
  have e3 : ((k + 1 : Nat) : Int) * (dot4 v v + T) = k * dot4 v v + k * T + dot4 v v + T := by push_cast; grind
  rw [e1, e3]
  omega
theorem mulS_norm (p q : Sp) : dot4 (mulS p q) (mulS p q) = dot4 p p * dot4 q q := by unfold dot4 mulS; grind
theorem rs_nn {g : Nat → Int} (h : ∀ s, 0 ≤ g s) : ∀ R, 0 ≤ rs g R
  | [] => Int.le_refl _
  | x :: R => by show 0 ≤ g x.frm + rs g R; have := h x.frm; have := rs_nn h R; omega
theorem cauchy (f : Nat → Sp) : ∀ R : List Arm, (∀ x, x ∈ R → dot4 x.q x.q = 4) → dot4 (accF f zs R) (accF f zs R) ≤ R.length * (4 * rs (fun t => dot4 (f t) (f t)) R)
  | [], _ => by show dot4 zs zs ≤ _; simp; decide
  | x :: R, h => by
    have ih := cauchy f R (fun y hy => h y (List.mem_cons_of_mem _ hy))
    have hx := h x List.mem_cons_self
    have e : accF f zs (x :: R) = addS (mulS x.q (f x.frm)) (accF f zs R) := by
      show accF f (addS zs (mulS x.q (f x.frm))) R = _
      rw [accF_start, addS_zero]
    have hn := rs_nn (g := fun t => dot4 (f t) (f t)) (fun s => dot4_nn _) R
    have := cauchy1 R.length (mulS x.q (f x.frm)) (accF f zs R) (4 * rs (fun t => dot4 (f t) (f t)) R) (by omega) ih
    rw [mulS_norm, hx] at this
    rw [e]
    refine Int.le_trans this (Int.le_of_eq ?_)
    rw [List.length_cons]
    show _ = _ * (4 * (dot4 (f x.frm) (f x.frm) + rs (fun t => dot4 (f t) (f t)) R))
    congr 1
    omega
/-- all units of the list have the length 1 -/
def One4 (L : List Q) : Prop := ∀ x, x ∈ L → dot4 (tw x) (tw x) = 4
theorem fac_four (a b : Int) {L : List Q} (hL : One4 L) (k : Nat) : dot4 (fac a b L k) (fac a b L k) = 4 := by
  have hu : dot4 (tw (ln L k)) (tw (ln L k)) = 4 := by
    unfold ln
    by_cases h : k < L.length
    · rw [List.getD_eq_getElem?_getD, List.getElem?_eq_getElem h]; exact hL _ (List.getElem_mem h)
    · rw [List.getD_eq_getElem?_getD, List.getElem?_eq_none (by omega)]; decide
  unfold fac
  have e : ∀ (σ : Int) (p : Sp), dot4 (smS σ p) (smS σ p) = σ * σ * dot4 p p := fun σ p => by unfold dot4 smS; grind
  rw [e, hu]
  rcases sg3_rng a b ((k % 3 : Nat) : Int) ((k / 3 : Nat) : Int) with h | h <;> rw [h] <;> rfl
theorem arms_four (a b c : Int) {L : List Q} (hL : One4 L) : ∀ k, ∀ x, x ∈ arms a b c L k → dot4 x.q x.q = 4
  | 0, x, hx => by simp [arms] at hx
  | k + 1, x, hx => by
    have e : arms a b c L (k + 1) = arms a b c L k ++ [arm1 a b c L k] ++ [arm2 a b c L k] := rfl
    rw [e] at hx
    simp only [List.mem_append, List.mem_singleton] at hx
    rcases hx with (hx | rfl) | rfl
    · exact arms_four a b c hL k x hx
    · exact fac_four a b hL k
    · show dot4 (flipS (fac a b L k)) (flipS (fac a b L k)) = 4
      rw [← fac_four a b hL k]; unfold dot4 flipS; grind
/-- the hopping -/
def hp (A : List Arm) (f : Nat → Sp) (s : Nat) : Sp := accF f zs (row A s)
/-- the hopping makes no vector more than 12 times as long -/
theorem hop_bound {a b c : Int} {n : Nat} (hz : Sz a b c) (hn : (n : Int) = a * b * c) {L : List Q} (hL : One4 L) (f : Nat → Sp) : sqF (hp (arms a b c L (n * 3)) f) n ≤ 144 * sqF f n := by
  have h1 : sqF (hp (arms a b c L (n * 3)) f) n ≤ sumN (fun s => 24 * rs (fun t => dot4 (f t) (f t)) (row (arms a b c L (n * 3)) s) + 0 * 0) n := by
    rw [sumN_sq]
    refine sumN_le n (fun s hs => ?_)
    have := cauchy f (row (arms a b c L (n * 3)) s) (fun x hx => arms_four a b c hL _ x (List.mem_filter.1 hx).1)
    have hl : (row (arms a b c L (n * 3)) s).length = 6 := by rw [row_two, (cnt_three hz hn hs).1, (cnt_three hz hn hs).2]
    rw [hl] at this
    show dot4 (accF f zs _) (accF f zs _) ≤ _
    refine Int.le_trans this (Int.le_of_eq ?_)
    show (6 : Int) * _ = _
    omega
  rw [sumN_lin 24 0 (fun s => rs (fun t => dot4 (f t) (f t)) (row (arms a b c L (n * 3)) s)) (fun _ => 0)] at h1
  have e1 := rs_sum hz hn L (fun t => dot4 (f t) (f t)) (n * 3) (Nat.le_refl _)
  have e2 := sum_nxl hz hn (fun t => dot4 (f t) (f t))
  have e3 := sumN_sq f n
  rw [sumN_zero] at h1
  omega
end Fm
