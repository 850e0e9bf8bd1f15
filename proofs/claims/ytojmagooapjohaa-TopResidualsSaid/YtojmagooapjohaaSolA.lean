/- The solver of the operator: the hopping makes no vector more than 12 times as long, and what each step keeps (mathematics).
Conditions: none. -/
import Derived.Test.YtojmagooapjohaaFtM
set_option autoImplicit false
set_option maxRecDepth 1000000
namespace Fm
set_option linter.unusedVariables false
set_option linter.unusedSimpArgs false
open Um Tm Go.RowKit

/-- the sum of the first m -/
def sumN (g : Nat → Int) : Nat → Int
  | 0 => 0
  | m + 1 => sumN g m + g m
theorem sumN_congr {g h : Nat → Int} : ∀ m, (∀ s, s < m → g s = h s) → sumN g m = sumN h m
  | 0, _ => rfl
  | m + 1, k => by show sumN g m + g m = sumN h m + h m; rw [sumN_congr m (fun s hs => k s (by omega)), k m (by omega)]
theorem sumN_le {g h : Nat → Int} : ∀ m, (∀ s, s < m → g s ≤ h s) → sumN g m ≤ sumN h m
  | 0, _ => Int.le_refl _
  | m + 1, k => by
    show sumN g m + g m ≤ sumN h m + h m
    have := sumN_le m (fun s hs => k s (by omega))
    have := k m (by omega)
    omega
theorem sumN_lin (j k : Int) (g h : Nat → Int) : ∀ m, sumN (fun s => j * g s + k * h s) m = j * sumN g m + k * sumN h m
  | 0 => by show (0 : Int) = j * 0 + k * 0; omega
  | m + 1 => by
    show sumN (fun s => j * g s + k * h s) m + (j * g m + k * h m) = j * (sumN g m + g m) + k * (sumN h m + h m)
    rw [sumN_lin j k g h m]; grind
theorem sumN_zero : ∀ m, sumN (fun _ => 0) m = 0
  | 0 => rfl
  | m + 1 => by show sumN (fun _ => 0) m + 0 = 0; rw [sumN_zero m]; rfl
theorem sumN_if (t : Nat) (y : Nat → Int) : ∀ m, sumN (fun s => if t = s then y s else 0) m = if t < m then y t else 0
  | 0 => rfl
  | m + 1 => by
    show sumN (fun s => if t = s then y s else 0) m + (if t = m then y m else 0) = _
    rw [sumN_if t y m]
    by_cases h1 : t = m
    · subst h1; rw [if_neg (by omega), if_pos rfl, if_pos (by omega)]; omega
    · by_cases h2 : t < m
      · rw [if_pos h2, if_neg h1, if_pos (by omega)]; omega
      · rw [if_neg h2, if_neg h1, if_neg (by omega)]; omega
theorem sumN_sq (f : Nat → Sp) : ∀ m, sqF f m = sumN (fun s => dot4 (f s) (f s)) m
  | 0 => rfl
  | m + 1 => by show sqF f m + _ = sumN _ m + _; rw [sumN_sq f m]
theorem sumN_nn {g : Nat → Int} : ∀ m, (∀ s, s < m → 0 ≤ g s) → 0 ≤ sumN g m := fun m h => by
  have := sumN_le (g := fun _ => 0) (h := g) m h
  rwa [sumN_zero] at this
/-- how many of the first m are t -/
def cnt (l : Nat → Nat) : Nat → Nat → Nat
  | 0, _ => 0
  | m + 1, t => cnt l m t + (if l m = t then 1 else 0)
theorem sum_by (l : Nat → Nat) (g : Nat → Int) (n : Nat) : ∀ m, (∀ k, k < m → l k < n) → sumN (fun k => g (l k)) m = sumN (fun t => (cnt l m t : Int) * g t) n
  | 0, _ => by
    show (0 : Int) = sumN (fun t => ((0 : Nat) : Int) * g t) n
    rw [sumN_congr (h := fun _ => 0) n (fun s _ => by simp), sumN_zero]
  | m + 1, h => by
    show sumN (fun k => g (l k)) m + g (l m) = _
    rw [sum_by l g n m (fun k hk => h k (by omega))]
    have e : sumN (fun t => (cnt l (m + 1) t : Int) * g t) n = sumN (fun t => 1 * ((cnt l m t : Int) * g t) + 1 * (if l m = t then g t else 0)) n := sumN_congr n (fun s _ => by
      show ((cnt l m s + (if l m = s then 1 else 0) : Nat) : Int) * g s = _
      by_cases h1 : l m = s
      · rw [if_pos h1, if_pos h1]; push_cast; grind
      · rw [if_neg h1, if_neg h1]; simp)
    rw [e, sumN_lin, sumN_if, if_pos (h m (by omega))]
    omega
def cntB (a b c : Int) (n : Nat) : Bool := (List.range n).all fun t => decide (cnt (nxl a b c) (n * 3) t = 3 ∧ cnt (fun k => k / 3) (n * 3) t = 3)
def cntAll : Bool := (List.range 4).all fun a => (List.range 4).all fun b => (List.range 4).all fun c => decide (16 < (a + 1) * (b + 1) * (c + 1)) || cntB (a + 1) (b + 1) (c + 1) ((a + 1) * (b + 1) * (c + 1))
theorem cntAll_true : cntAll = true := by decide +kernel
theorem cnt_three {a b c : Int} {n : Nat} (hz : Sz a b c) (hn : (n : Int) = a * b * c) {t : Nat} (ht : t < n) : cnt (nxl a b c) (n * 3) t = 3 ∧ cnt (fun k => k / 3) (n * 3) t = 3 := by
  obtain ⟨a1, a4, b1, b4, c1, c4, hp⟩ := hz
  obtain ⟨A, rfl⟩ : ∃ A : Nat, a = ((A : Int) + 1) := ⟨(a - 1).toNat, by omega⟩
  obtain ⟨B, rfl⟩ : ∃ B : Nat, b = ((B : Int) + 1) := ⟨(b - 1).toNat, by omega⟩
  obtain ⟨C, rfl⟩ : ∃ C : Nat, c = ((C : Int) + 1) := ⟨(c - 1).toNat, by omega⟩
  have h := cntAll_true
  simp only [cntAll, List.all_eq_true, List.mem_range] at h
  have h2 := h A (by omega) B (by omega) C (by omega)
  have e : (((A + 1) * (B + 1) * (C + 1) : Nat) : Int) = ((A : Int) + 1) * ((B : Int) + 1) * ((C : Int) + 1) := by simp
  obtain rfl : n = (A + 1) * (B + 1) * (C + 1) := by omega
  have h3 : decide (16 < (A + 1) * (B + 1) * (C + 1)) = false := by
    rw [decide_eq_false_iff_not]
    omega
  rw [h3, Bool.false_or] at h2
  simp only [cntB, List.all_eq_true, List.mem_range, decide_eq_true_eq] at h2
  exact h2 t ht
theorem sum_nxl {a b c : Int} {n : Nat} (hz : Sz a b c) (hn : (n : Int) = a * b * c) (g : Nat → Int) : sumN (fun k => g (nxl a b c k)) (n * 3) = 3 * sumN g n ∧ sumN (fun k => g (k / 3)) (n * 3) = 3 * sumN g n := by
  have h1 := sum_by (nxl a b c) g n (n * 3) (fun k _ => by have := (nxl_rng hz k).2; omega)
  have h2 := sum_by (fun k => k / 3) g n (n * 3) (fun k _ => by omega)
  have e : ∀ u : Nat → Nat, (∀ t, t < n → u t = 3) → sumN (fun t => (u t : Int) * g t) n = 3 * sumN g n := fun u hu => by
    have := sumN_lin 3 0 g (fun _ => 0) n
    rw [sumN_congr (h := fun t => 3 * g t + 0 * 0) n (fun s hs => by rw [hu s hs]; simp), this]; omega
  rw [h1, h2, e _ (fun t ht => (cnt_three hz hn ht).1), e _ (fun t ht => (cnt_three hz hn ht).2)]
  exact ⟨rfl, rfl⟩
/-! ### the rows of arms -/
/-- the sum over arms -/
def rs (g : Nat → Int) : List Arm → Int
  | [] => 0
  | x :: l => g x.frm + rs g l
theorem rs_snoc (g : Nat → Int) (x : Arm) : ∀ l, rs g (l ++ [x]) = rs g l + g x.frm
  | [] => by show g x.frm + 0 = 0 + g x.frm; omega
  | y :: l => by show g y.frm + rs g (l ++ [x]) = g y.frm + rs g l + g x.frm; rw [rs_snoc g x l]; omega
theorem row_two {a b c : Int} (L : List Q) (s : Nat) : ∀ k, (row (arms a b c L k) s).length = cnt (nxl a b c) k s + cnt (fun k => k / 3) k s
  | 0 => rfl
  | k + 1 => by
    have e : arms a b c L (k + 1) = arms a b c L k ++ [arm1 a b c L k] ++ [arm2 a b c L k] := rfl
    have ih := row_two (a := a) (b := b) (c := c) L s k
    have key : ∀ (A : List Arm) (x : Arm), (row (A ++ [x]) s).length = (row A s).length + (if x.to = s then 1 else 0) := fun A x => by
      rw [row_snoc]; split
      · simp
      · simp
    rw [e, key, key, ih]
    show _ = cnt (nxl a b c) k s + (if nxl a b c k = s then 1 else 0) + (cnt (fun k => k / 3) k s + (if k / 3 = s then 1 else 0))
    show cnt (nxl a b c) k s + cnt (fun k => k / 3) k s + (if k / 3 = s then 1 else 0) + (if nxl a b c k = s then 1 else 0) = _
    omega
theorem rs_sum {a b c : Int} {n : Nat} (hz : Sz a b c) (hn : (n : Int) = a * b * c) (L : List Q) (g : Nat → Int) : ∀ k, k ≤ n * 3 → sumN (fun s => rs g (row (arms a b c L k) s)) n = sumN (fun k => g (nxl a b c k)) k + sumN (fun k => g (k / 3)) k
  | 0, _ => by
    show sumN (fun _ => 0) n = 0 + 0
    rw [sumN_zero]; rfl
  | k + 1, hk => by
    have e : arms a b c L (k + 1) = arms a b c L k ++ [arm1 a b c L k] ++ [arm2 a b c L k] := rfl
    have ih := rs_sum hz hn L g k (by omega)
    have ht := (nxl_rng hz k).2
    have key : ∀ (A : List Arm) (x : Arm), x.to < n → sumN (fun s => rs g (row (A ++ [x]) s)) n = sumN (fun s => rs g (row A s)) n + g x.frm := fun A x hx => by
      rw [sumN_congr (h := fun s => 1 * rs g (row A s) + 1 * (if x.to = s then g x.frm else 0)) n (fun s _ => by
        rw [row_snoc]
        by_cases h : x.to = s
        · rw [if_pos h, if_pos h, rs_snoc]; omega
        · rw [if_neg h, if_neg h]; omega), sumN_lin, sumN_if x.to (fun _ => g x.frm), if_pos hx]
      omega
    rw [e, key _ _ (show nxl a b c k < n by omega), key _ _ (show k / 3 < n by omega), ih]
    show _ = sumN (fun k => g (nxl a b c k)) k + g (nxl a b c k) + (sumN (fun k => g (k / 3)) k + g (k / 3))
    show _ + g (nxl a b c k) + g (k / 3) = _
    omega
theorem addS_assoc (p q r : Sp) : addS (addS p q) r = addS p (addS q r) := by
  refine ext_S ?_ ?_ ?_ ?_ <;> simp only [addS] <;> omega
theorem accF_start (f : Nat → Sp) : ∀ (R : List Arm) (t : Sp), accF f t R = addS t (accF f zs R)
  | [], t => by show t = addS t zs; refine ext_S ?_ ?_ ?_ ?_ <;> simp [addS, zs]
  | x :: R, t => by
    show accF f (addS t (mulS x.q (f x.frm))) R = addS t (accF f (addS zs (mulS x.q (f x.frm))) R)
    rw [accF_start f R, accF_start f R (addS zs _), addS_zero, addS_assoc]
theorem sq_nn (x : Int) : 0 ≤ x * x := by
  rcases Int.le_total 0 x with h | h
  · exact Int.mul_nonneg h h
  · exact Int.mul_nonneg_of_nonpos_of_nonpos h h
theorem dot4_zero {p : Sp} (h : dot4 p p ≤ 0) : p = zs := by
  have h1 := sq_nn p.a
  have h2 := sq_nn p.b
  have h3 := sq_nn p.c
  have h4 := sq_nn p.d
  have e : dot4 p p = p.a * p.a + p.b * p.b + p.c * p.c + p.d * p.d := rfl
  have z : ∀ x : Int, x * x ≤ 0 → x = 0 := fun x hx => by
    have : x * x = 0 := by have := sq_nn x; omega
    rcases Int.mul_eq_zero.1 this with h | h <;> exact h
  exact ext_S (z _ (by omega)) (z _ (by omega)) (z _ (by omega)) (z _ (by omega))
theorem cauchy1 (k : Nat) (v S : Sp) (T : Int) (hT : 0 ≤ T) (h : dot4 S S ≤ k * T) : dot4 (addS v S) (addS v S) ≤ (k + 1 : Nat) * (dot4 v v + T) := by
  have e1 : dot4 (addS v S) (addS v S) = dot4 v v + 2 * dot4 v S + dot4 S S := by unfold dot4 addS; grind
  have key : 2 * dot4 v S ≤ k * dot4 v v + T := by
    by_cases hk : k = 0
    · subst hk
      have : S = zs := dot4_zero (by simpa using h)
      subst this
      have : dot4 v zs = 0 := by unfold dot4 zs; simp
      rw [this]; simp; exact hT
    · have hp : (0 : Int) < k := by omega
      have h2 := dot4_nn (addS (smS k v) (smS (-1) S))
      have e2 : dot4 (addS (smS k v) (smS (-1) S)) (addS (smS k v) (smS (-1) S)) = k * (k * dot4 v v) - k * (2 * dot4 v S) + dot4 S S := by unfold dot4 addS smS; grind
      have h3 : 0 ≤ k * (k * dot4 v v + T - 2 * dot4 v S) := by
        have : (k : Int) * (k * dot4 v v + T - 2 * dot4 v S) = k * (k * dot4 v v) - k * (2 * dot4 v S) + k * T := by grind
        rw [this]; omega
      have := Int.nonneg_of_mul_nonneg_right h3 hp
      omega
  have e3 : ((k + 1 : Nat) : Int) * (dot4 v v + T) = k * dot4 v v + k * T + dot4 v v + T := by push_cast; grind
  rw [e1, e3]
  omega
theorem mulS_norm (p q : Sp) : dot4 (mulS p q) (mulS p q) = dot4 p p * dot4 q q := by unfold dot4 mulS; grind
theorem rs_nn {g : Nat → Int} (h : ∀ s, 0 ≤ g s) : ∀ R, 0 ≤ rs g R
  | [] => Int.le_refl _
  | x :: R => by show 0 ≤ g x.frm + rs g R; have := h x.frm; have := rs_nn h R; omega
theorem cauchy (f : Nat → Sp) : ∀ R : List Arm, (∀ x, x ∈ R → dot4 x.q x.q = 4) → dot4 (accF f zs R) (accF f zs R) ≤ R.length * (4 * rs (fun t => dot4 (f t) (f t)) R)
  | [], _ => by show dot4 zs zs ≤ _; simp; decide
  | x :: R, h => by
    have ih := cauchy f R (fun y hy => h y (List.mem_cons_of_mem _ hy))
    have hx := h x List.mem_cons_self
    have e : accF f zs (x :: R) = addS (mulS x.q (f x.frm)) (accF f zs R) := by
      show accF f (addS zs (mulS x.q (f x.frm))) R = _
      rw [accF_start, addS_zero]
    have hn := rs_nn (g := fun t => dot4 (f t) (f t)) (fun s => dot4_nn _) R
    have := cauchy1 R.length (mulS x.q (f x.frm)) (accF f zs R) (4 * rs (fun t => dot4 (f t) (f t)) R) (by omega) ih
    rw [mulS_norm, hx] at this
    rw [e]
    refine Int.le_trans this (Int.le_of_eq ?_)
    rw [List.length_cons]
    show _ = _ * (4 * (dot4 (f x.frm) (f x.frm) + rs (fun t => dot4 (f t) (f t)) R))
    congr 1
    omega
/-- all units of the list have the length 1 -/
def One4 (L : List Q) : Prop := ∀ x, x ∈ L → dot4 (tw x) (tw x) = 4
theorem fac_four (a b : Int) {L : List Q} (hL : One4 L) (k : Nat) : dot4 (fac a b L k) (fac a b L k) = 4 := by
  have hu : dot4 (tw (ln L k)) (tw (ln L k)) = 4 := by
    unfold ln
    by_cases h : k < L.length
    · rw [List.getD_eq_getElem?_getD, List.getElem?_eq_getElem h]; exact hL _ (List.getElem_mem h)
    · rw [List.getD_eq_getElem?_getD, List.getElem?_eq_none (by omega)]; decide
  unfold fac
  have e : ∀ (σ : Int) (p : Sp), dot4 (smS σ p) (smS σ p) = σ * σ * dot4 p p := fun σ p => by unfold dot4 smS; grind
  rw [e, hu]
  rcases sg3_rng a b ((k % 3 : Nat) : Int) ((k / 3 : Nat) : Int) with h | h <;> rw [h] <;> rfl
theorem arms_four (a b c : Int) {L : List Q} (hL : One4 L) : ∀ k, ∀ x, x ∈ arms a b c L k → dot4 x.q x.q = 4
  | 0, x, hx => by simp [arms] at hx
  | k + 1, x, hx => by
    have e : arms a b c L (k + 1) = arms a b c L k ++ [arm1 a b c L k] ++ [arm2 a b c L k] := rfl
    rw [e] at hx
    simp only [List.mem_append, List.mem_singleton] at hx
    rcases hx with (hx | rfl) | rfl
    · exact arms_four a b c hL k x hx
    · exact fac_four a b hL k
    · show dot4 (flipS (fac a b L k)) (flipS (fac a b L k)) = 4
      rw [← fac_four a b hL k]; unfold dot4 flipS; grind
/-- the hopping -/
def hp (A : List Arm) (f : Nat → Sp) (s : Nat) : Sp := accF f zs (row A s)
/-- the hopping makes no vector more than 12 times as long -/
theorem hop_bound {a b c : Int} {n : Nat} (hz : Sz a b c) (hn : (n : Int) = a * b * c) {L : List Q} (hL : One4 L) (f : Nat → Sp) : sqF (hp (arms a b c L (n * 3)) f) n ≤ 144 * sqF f n := by
  have h1 : sqF (hp (arms a b c L (n * 3)) f) n ≤ sumN (fun s => 24 * rs (fun t => dot4 (f t) (f t)) (row (arms a b c L (n * 3)) s) + 0 * 0) n := by
    rw [sumN_sq]
    refine sumN_le n (fun s hs => ?_)
    have := cauchy f (row (arms a b c L (n * 3)) s) (fun x hx => arms_four a b c hL _ x (List.mem_filter.1 hx).1)
    have hl : (row (arms a b c L (n * 3)) s).length = 6 := by rw [row_two, (cnt_three hz hn hs).1, (cnt_three hz hn hs).2]
    rw [hl] at this
    show dot4 (accF f zs _) (accF f zs _) ≤ _
    refine Int.le_trans this (Int.le_of_eq ?_)
    show (6 : Int) * _ = _
    omega
  rw [sumN_lin 24 0 (fun s => rs (fun t => dot4 (f t) (f t)) (row (arms a b c L (n * 3)) s)) (fun _ => 0)] at h1
  have e1 := rs_sum hz hn L (fun t => dot4 (f t) (f t)) (n * 3) (Nat.le_refl _)
  have e2 := sum_nxl hz hn (fun t => dot4 (f t) (f t))
  have e3 := sumN_sq f n
  rw [sumN_zero] at h1
  omega
end Fm

/- The solver of the operator: what each step keeps, and that it ends near the solution (mathematics).
Conditions: those written at each theorem. -/
set_option autoImplicit false
set_option maxRecDepth 1000000
namespace Fm
set_option linter.unusedVariables false
set_option linter.unusedSimpArgs false
open Um Tm Go.RowKit

/-- the product of two vectors -/
def ip (f g : Nat → Sp) (n : Nat) : Int := sumN (fun s => dot4 (f s) (g s)) n
theorem ip_sumD (f : Nat → Sp) (N : List Sp) : ∀ m, sumD f N m = ip f (at0 N) m
  | 0 => rfl
  | m + 1 => by show sumD f N m + _ = sumN _ m + _; rw [ip_sumD f N m]; rfl
theorem ip_comm (f g : Nat → Sp) (n : Nat) : ip f g n = ip g f n := sumN_congr n (fun s _ => dot4_comm _ _)
theorem ip_lin_l (j k : Int) (f g h : Nat → Sp) (n : Nat) : ip (fun s => linS j k (f s) (g s)) h n = j * ip f h n + k * ip g h n := by
  unfold ip
  rw [← sumN_lin]
  refine sumN_congr n (fun s _ => ?_)
  unfold dot4 linS addS smS; grind
theorem ip_lin_r (j k : Int) (f g h : Nat → Sp) (n : Nat) : ip h (fun s => linS j k (f s) (g s)) n = j * ip h f n + k * ip h g n := by
  rw [ip_comm, ip_lin_l, ip_comm f, ip_comm g]
theorem sq_ip (f : Nat → Sp) (n : Nat) : sqF f n = ip f f n := sumN_sq f n
theorem sq_lin (j k : Int) (f g : Nat → Sp) (n : Nat) : sqF (fun s => linS j k (f s) (g s)) n = j * j * sqF f n + 2 * j * k * ip f g n + k * k * sqF g n := by
  rw [sq_ip, ip_lin_l, ip_lin_r, ip_lin_r, ip_comm g f, ← sq_ip, ← sq_ip]
  grind
theorem opE_hp (k m : Int) (A : List Arm) (f : Nat → Sp) : opE k m A f = fun s => linS m k (f s) (hp A f s) := rfl
theorem bal_ip {a b c : Int} {n : Nat} (hz : Sz a b c) (hn : (n : Int) = a * b * c) (L : List Q) (R C : List Sp) : ip (hp (arms a b c L (n * 3)) (at0 R)) (at0 C) n + ip (hp (arms a b c L (n * 3)) (at0 C)) (at0 R) n = 0 := by
  have := bal0 hz hn L R C (n * 3) (Nat.le_refl _)
  rw [ip_sumD, ip_sumD] at this
  exact this
theorem adj {a b c : Int} {n : Nat} (hz : Sz a b c) (hn : (n : Int) = a * b * c) (L : List Q) (m : Int) (R C : List Sp) : ip (opE (-1) m (arms a b c L (n * 3)) (at0 R)) (at0 C) n = ip (at0 R) (opE 1 m (arms a b c L (n * 3)) (at0 C)) n := by
  have := bal_ip hz hn L R C
  rw [opE_hp, opE_hp, ip_lin_l, ip_lin_r, ip_comm (at0 R) (hp _ _)]
  omega
theorem op_norm {a b c : Int} {n : Nat} (hz : Sz a b c) (hn : (n : Int) = a * b * c) (L : List Q) (k m : Int) (hk : k * k = 1) (X : List Sp) : sqF (opE k m (arms a b c L (n * 3)) (at0 X)) n = m * m * sqF (at0 X) n + sqF (hp (arms a b c L (n * 3)) (at0 X)) n := by
  have h := bal_ip hz hn L X X
  have h0 : ip (at0 X) (hp (arms a b c L (n * 3)) (at0 X)) n = 0 := by rw [ip_comm]; omega
  rw [opE_hp, sq_lin, h0, hk]
  omega
theorem op_up {a b c : Int} {n : Nat} (hz : Sz a b c) (hn : (n : Int) = a * b * c) {L : List Q} (hL : One4 L) (k m : Int) (hk : k * k = 1) (X : List Sp) : sqF (opE k m (arms a b c L (n * 3)) (at0 X)) n ≤ (m * m + 144) * sqF (at0 X) n := by
  have h1 := op_norm hz hn L k m hk X
  have h2 := hop_bound hz hn hL (at0 X)
  rw [Int.add_mul]
  omega
theorem op_down {a b c : Int} {n : Nat} (hz : Sz a b c) (hn : (n : Int) = a * b * c) (L : List Q) (k m : Int) (hk : k * k = 1) (X : List Sp) : m * m * sqF (at0 X) n ≤ sqF (opE k m (arms a b c L (n * 3)) (at0 X)) n := by
  have h1 := op_norm hz hn L k m hk X
  have h2 := sqF_nn (hp (arms a b c L (n * 3)) (at0 X)) n
  omega
/-! ### lists and their sums -/
theorem opE_lin (k m i j : Int) (A : List Arm) (f g : Nat → Sp) (s : Nat) : opE k m A (fun t => linS i j (f t) (g t)) s = linS i j (opE k m A f s) (opE k m A g s) := by
  have := accF_lin i j f g (row A s) zs zs
  rw [zs_lin] at this
  unfold opE
  rw [this]
  refine ext_S ?_ ?_ ?_ ?_ <;> simp only [linS, addS, smS] <;> grind
/-- a sum of multiples of two vectors -/
def lnL (n : Nat) (i j : Int) (V W : List Sp) : List Sp := tab n (fun s => linS i j (at0 V s) (at0 W s))
theorem lnL_len (n : Nat) (i j : Int) (V W : List Sp) : (lnL n i j V W).length = n := tab_len _ _
theorem lnL_at {n : Nat} (i j : Int) {V W : List Sp} (hV : V.length = n) (hW : W.length = n) : at0 (lnL n i j V W) = fun s => linS i j (at0 V s) (at0 W s) := by
  funext s
  by_cases h : s < n
  · unfold lnL
    rw [at0_tab _ h]
  · rw [at0_out (M := lnL n i j V W) (by rw [lnL_len]; omega), at0_out (M := V) (by omega), at0_out (M := W) (by omega), zs_lin]
/-- the operator's values, exact -/
def opT (k m : Int) (n : Nat) (A : List Arm) (X : List Sp) : List Sp := tab n (opE k m A (at0 X))
theorem opT_len (k m : Int) (n : Nat) (A : List Arm) (X : List Sp) : (opT k m n A X).length = n := tab_len _ _
theorem sq_tab (f : Nat → Sp) (n : Nat) : sqF (at0 (tab n f)) n = sqF f n := by
  rw [sumN_sq, sumN_sq]
  exact sumN_congr n (fun s hs => by rw [at0_tab _ hs])
theorem ip_tab_r (f g : Nat → Sp) (n : Nat) : ip f (at0 (tab n g)) n = ip f g n := sumN_congr n (fun s hs => by rw [at0_tab _ hs])
theorem ip_tab_l (f g : Nat → Sp) (n : Nat) : ip (at0 (tab n g)) f n = ip g f n := sumN_congr n (fun s hs => by rw [at0_tab _ hs])
theorem tab_ext {n : Nat} {V W : List Sp} (hV : V.length = n) (hW : W.length = n) (h : ∀ s, s < n → at0 V s = at0 W s) : V = W := by
  rw [← tab_self V, ← tab_self W, hV, hW]
  exact tab_congr h
/-! ### bounds out of the sum of squares -/
theorem sq_at {f : Nat → Sp} {n s : Nat} (hs : s < n) : dot4 (f s) (f s) ≤ sqF f n := by
  have := sqF_mono f (show s + 1 ≤ n by omega)
  have h2 : sqF f (s + 1) = sqF f s + dot4 (f s) (f s) := rfl
  have := sqF_nn f s
  omega
theorem abs_of_sq {x K : Int} (hK : 0 ≤ K) (h : x * x ≤ K * K) : -K ≤ x ∧ x ≤ K := by
  refine ⟨?_, ?_⟩
  · by_cases h1 : -K ≤ x
    · exact h1
    · have : (K + 1) * (K + 1) ≤ (-x) * (-x) := Int.mul_le_mul (by omega) (by omega) (by omega) (by omega)
      rw [Int.neg_mul_neg] at this
      have e : (K + 1) * (K + 1) = K * K + 2 * K + 1 := by grind
      omega
  · by_cases h1 : x ≤ K
    · exact h1
    · have : (K + 1) * (K + 1) ≤ x * x := Int.mul_le_mul (by omega) (by omega) (by omega) (by omega)
      have e : (K + 1) * (K + 1) = K * K + 2 * K + 1 := by grind
      omega
theorem bd_of_dot {p : Sp} {K : Int} (hK : 0 ≤ K) (h : dot4 p p ≤ K * K) : Bd K p := by
  have h1 := sq_nn p.a
  have h2 := sq_nn p.b
  have h3 := sq_nn p.c
  have h4 := sq_nn p.d
  have e : dot4 p p = p.a * p.a + p.b * p.b + p.c * p.c + p.d * p.d := rfl
  exact ⟨abs_of_sq hK (by omega), abs_of_sq hK (by omega), abs_of_sq hK (by omega), abs_of_sq hK (by omega)⟩
theorem bd_of_sq {f : Nat → Sp} {n : Nat} {K : Int} (hK : 0 ≤ K) (h : sqF f n ≤ K * K) {s : Nat} (hs : s < n) : Bd K (f s) := bd_of_dot hK (Int.le_trans (sq_at hs) h)
theorem dot_of_bd {p : Sp} {K : Int} (h : Bd K p) : dot4 p p ≤ 4 * (K * K) := by
  obtain ⟨h1, h2, h3, h4⟩ := h
  have z : ∀ x : Int, -K ≤ x ∧ x ≤ K → x * x ≤ K * K := fun x hx => by
    have h5 : 0 ≤ (K - x) * (K + x) := Int.mul_nonneg (by omega) (by omega)
    have e : (K - x) * (K + x) = K * K - x * x := by grind
    omega
  have := z _ h1
  have := z _ h2
  have := z _ h3
  have := z _ h4
  have e : dot4 p p = p.a * p.a + p.b * p.b + p.c * p.c + p.d * p.d := rfl
  omega
theorem sq_of_bd {f : Nat → Sp} {K : Int} : ∀ n, (∀ s, s < n → Bd K (f s)) → sqF f n ≤ n * (4 * (K * K))
  | 0, _ => by show (0 : Int) ≤ _; simp
  | n + 1, h => by
    have h1 := sq_of_bd n (fun s hs => h s (by omega))
    have h2 := dot_of_bd (h n (by omega))
    have e : ((n + 1 : Nat) : Int) * (4 * (K * K)) = n * (4 * (K * K)) + 4 * (K * K) := by push_cast; grind
    show sqF f n + _ ≤ _
    omega
/-! ### one step -/
/-- a quaternion divided, each entry toward 0 -/
def quS (D : Int) (p : Sp) : Sp := ⟨p.a.tdiv D, p.b.tdiv D, p.c.tdiv D, p.d.tdiv D⟩
theorem tdiv_sq {D : Int} (hD : 0 < D) (y : Int) : D * (y.tdiv D * y.tdiv D) ≤ y * y.tdiv D := by
  have pos : ∀ y : Int, 0 ≤ y → D * (y.tdiv D * y.tdiv D) ≤ y * y.tdiv D := fun y hy => by
    rw [Int.tdiv_eq_ediv_of_nonneg hy]
    have h1 : 0 ≤ y / D := Int.ediv_nonneg hy (by omega)
    have h2 : D * (y / D) ≤ y := Int.mul_ediv_self_le (by omega)
    have := Int.mul_le_mul_of_nonneg_right h2 h1
    rwa [Int.mul_assoc] at this
  by_cases h : 0 ≤ y
  · exact pos y h
  · have := pos (-y) (by omega)
    rw [Int.neg_tdiv, Int.neg_mul_neg, Int.neg_mul_neg] at this
    exact this
theorem tdiv_zero {D y : Int} (hD : 0 < D) (h : y.tdiv D = 0) : -D ≤ y ∧ y ≤ D := by
  have pos : ∀ y : Int, 0 ≤ y → y.tdiv D = 0 → y ≤ D := fun y hy h => by
    rw [Int.tdiv_eq_ediv_of_nonneg hy] at h
    have h1 := Int.mul_ediv_add_emod y D
    have h2 := Int.emod_lt_of_pos y hD
    rw [h] at h1
    omega
  by_cases h0 : 0 ≤ y
  · exact ⟨by omega, pos y h0 h⟩
  · have := pos (-y) (by omega) (by rw [Int.neg_tdiv, h]; rfl)
    omega
theorem quS_ge {D : Int} (hD : 0 < D) (p : Sp) : D * dot4 (quS D p) (quS D p) ≤ dot4 p (quS D p) := by
  have h1 := tdiv_sq hD p.a
  have h2 := tdiv_sq hD p.b
  have h3 := tdiv_sq hD p.c
  have h4 := tdiv_sq hD p.d
  unfold dot4 quS
  dsimp only
  rw [Int.mul_add, Int.mul_add, Int.mul_add]
  omega
/-- a vector divided -/
def quL (D : Int) (n : Nat) (V : List Sp) : List Sp := tab n (fun s => quS D (at0 V s))
theorem quL_len (D : Int) (n : Nat) (V : List Sp) : (quL D n V).length = n := tab_len _ _
theorem sumN_mulr (k : Int) (g : Nat → Int) : ∀ m, sumN (fun s => k * g s) m = k * sumN g m
  | 0 => by show (0 : Int) = k * 0; omega
  | m + 1 => by
    show sumN (fun s => k * g s) m + k * g m = k * (sumN g m + g m)
    rw [sumN_mulr k g m]; grind
theorem qu_ip {D : Int} (hD : 0 < D) (n : Nat) (V : List Sp) : D * sqF (at0 (quL D n V)) n ≤ ip (at0 V) (at0 (quL D n V)) n := by
  unfold quL
  rw [sq_tab, ip_tab_r, sumN_sq, ← sumN_mulr]
  exact sumN_le n (fun s _ => quS_ge hD _)
/-- what is left of a source -/
def lfL (m : Int) (n : Nat) (A : List Arm) (B X : List Sp) : List Sp := lnL n 1 (-1) B (opT 1 m n A X)
theorem lfL_len (m : Int) (n : Nat) (A : List Arm) (B X : List Sp) : (lfL m n A B X).length = n := tab_len _ _
theorem lfL_at {m : Int} {n : Nat} {A : List Arm} {B : List Sp} (X : List Sp) (hB : B.length = n) : at0 (lfL m n A B X) = fun s => linS 1 (-1) (at0 B s) (at0 (opT 1 m n A X) s) := lnL_at 1 (-1) hB (opT_len _ _ _ _ _)
theorem opT_add {m : Int} {n : Nat} {A : List Arm} {X C : List Sp} (hX : X.length = n) (hC : C.length = n) : opT 1 m n A (lnL n 1 1 X C) = lnL n 1 1 (opT 1 m n A X) (opT 1 m n A C) := by
  unfold opT
  rw [lnL_at 1 1 hX hC]
  refine tab_congr fun s hs => ?_
  rw [opE_lin, at0_tab _ hs, at0_tab _ hs]
theorem lf_step {m : Int} {n : Nat} {A : List Arm} {B X C : List Sp} (hX : X.length = n) (hC : C.length = n) : lfL m n A B (lnL n 1 1 X C) = lnL n 1 (-1) (lfL m n A B X) (opT 1 m n A C) := by
  unfold lfL
  rw [opT_add hX hC]
  refine tab_congr fun s hs => ?_
  unfold lnL
  rw [at0_tab _ hs, at0_tab _ hs]
  refine ext_S ?_ ?_ ?_ ?_ <;> simp only [linS, addS, smS] <;> omega
/-- the correction of a step -/
def coR (m D : Int) (n : Nat) (A : List Arm) (R : List Sp) : List Sp := quL D n (opT (-1) m n A R)
theorem coR_len (m D : Int) (n : Nat) (A : List Arm) (R : List Sp) : (coR m D n A R).length = n := quL_len _ _ _
theorem step_down {a b c : Int} {n : Nat} (hz : Sz a b c) (hn : (n : Int) = a * b * c) {L : List Q} (hL : One4 L) {m D : Int} (hD : 0 < D) {R : List Sp} (hR : R.length = n) :
    sqF (at0 (lnL n 1 (-1) R (opT 1 m n (arms a b c L (n * 3)) (coR m D n (arms a b c L (n * 3)) R)))) n + (2 * D - m * m - 144) * sqF (at0 (coR m D n (arms a b c L (n * 3)) R)) n ≤ sqF (at0 R) n := by
  generalize hC : coR m D n (arms a b c L (n * 3)) R = C
  have h1 := qu_ip hD n (opT (-1) m n (arms a b c L (n * 3)) R)
  rw [show quL D n (opT (-1) m n (arms a b c L (n * 3)) R) = C from hC] at h1
  have h2 : ip (at0 (opT (-1) m n (arms a b c L (n * 3)) R)) (at0 C) n = ip (at0 R) (at0 (opT 1 m n (arms a b c L (n * 3)) C)) n := by
    unfold opT
    rw [ip_tab_l, ip_tab_r]
    exact adj hz hn L m R C
  have h3 := op_up hz hn hL 1 m (by decide) C
  have h4 : sqF (at0 (opT 1 m n (arms a b c L (n * 3)) C)) n = sqF (opE 1 m (arms a b c L (n * 3)) (at0 C)) n := sq_tab _ _
  rw [lnL_at 1 (-1) hR (opT_len _ _ _ _ _), sq_lin]
  have e : (2 * D - m * m - 144) * sqF (at0 C) n = 2 * (D * sqF (at0 C) n) - (m * m + 144) * sqF (at0 C) n := by grind
  omega
end Fm

/- The solver of the operator: the program's numbers are exact, each step shortens what is left, and the end is near (mathematics).
Conditions: those written at each theorem. -/
set_option autoImplicit false
set_option maxRecDepth 1000000
namespace Fm
set_option linter.unusedVariables false
set_option linter.unusedSimpArgs false
open Um Tm Go.RowKit

theorem bd_w {p : Sp} {K : Int} (h : Bd K p) (hK : K ≤ 9000000000000000000) : p.w = p := w_bd h hK
theorem bd_le {p : Sp} {J K : Int} (h : Bd J p) (hK : J ≤ K) : Bd K p := by
  obtain ⟨⟨a1, a2⟩, ⟨b1, b2⟩, ⟨c1, c2⟩, d1, d2⟩ := h
  exact ⟨⟨by omega, by omega⟩, ⟨by omega, by omega⟩, ⟨by omega, by omega⟩, by omega, by omega⟩
theorem bd_lin {p q : Sp} {J K : Int} (h : Bd J p) (g : Bd K q) : Bd (J + K) (linS 1 (-1) p q) ∧ Bd (J + K) (linS 1 1 p q) := by
  obtain ⟨⟨a1, a2⟩, ⟨b1, b2⟩, ⟨c1, c2⟩, d1, d2⟩ := h
  obtain ⟨⟨a3, a4⟩, ⟨b3, b4⟩, ⟨c3, c4⟩, d3, d4⟩ := g
  unfold linS addS smS Bd
  dsimp only
  refine ⟨⟨⟨?_, ?_⟩, ⟨?_, ?_⟩, ⟨?_, ?_⟩, ?_, ?_⟩, ⟨?_, ?_⟩, ⟨?_, ?_⟩, ⟨?_, ?_⟩, ?_, ?_⟩ <;> omega
theorem prog_op {k ma : Int} {n : Nat} {A : List Arm} {X : List Sp} {K : Int} (h : ∀ s, s < n → Bd K (at0 (opT k (4 * ma) n A X) s)) (hK : K ≤ 4000000000000000000) : opL k ma n A X = opT k (4 * ma) n A X := by
  rw [opL_E]
  unfold opT
  refine tab_congr fun s hs => ?_
  have := h s hs
  unfold opT at this
  rw [at0_tab _ hs] at this
  exact bd_w this (by omega)
theorem prog_left {ma : Int} {n : Nat} {A : List Arm} {B X : List Sp} {J K : Int} (hB : B.length = n) (hJ : ∀ s, s < n → Bd J (at0 B s)) (hJ2 : J ≤ 4000000000000000000) (h : ∀ s, s < n → Bd K (at0 (opT 1 (4 * ma) n A X) s)) (hK : K ≤ 4000000000000000000) : axp (-1) B (opL 1 ma n A X) = lfL (4 * ma) n A B X := by
  rw [prog_op h hK]
  unfold axp lfL lnL
  rw [hB]
  refine tab_congr fun s hs => ?_
  have := (bd_lin (hJ s hs) (h s hs)).1
  rw [← bd_w this (by omega)]
  unfold axS linS
  congr 1
  refine ext_S ?_ ?_ ?_ ?_ <;> simp only [addS, smS] <;> omega
/-! ### what is kept -/
/-- what the solver keeps -/
structure Inv (m : Int) (n : Nat) (A : List Arm) (B X : List Sp) : Prop where
  l : X.length = n
  s : sqF (at0 (lfL m n A B X)) n ≤ sqF (at0 B) n
theorem inv_bounds {a b c : Int} {n : Nat} (hz : Sz a b c) (hn : (n : Int) = a * b * c) {L : List Q} (hL : One4 L) {m : Int} (m4 : 4 ≤ m) (m40 : m ≤ 40) {B X : List Sp} (hB : B.length = n) (hBs : sqF (at0 B) n ≤ 549755813888 * 549755813888) (h : Inv m n (arms a b c L (n * 3)) B X) :
    (∀ s, s < n → Bd 549755813888 (at0 (lfL m n (arms a b c L (n * 3)) B X) s)) ∧ (∀ s, s < n → Bd 1099511627776 (at0 (opT 1 m n (arms a b c L (n * 3)) X) s)) ∧ (∀ s, s < n → Bd 274877906944 (at0 X s)) ∧ (∀ s, s < n → Bd 35184372088832 (at0 (opT (-1) m n (arms a b c L (n * 3)) (lfL m n (arms a b c L (n * 3)) B X)) s)) := by
  have h0 := h.s
  have h1 : sqF (at0 (lfL m n (arms a b c L (n * 3)) B X)) n ≤ 549755813888 * 549755813888 := Int.le_trans h0 hBs
  have h2 : sqF (at0 (opT 1 m n (arms a b c L (n * 3)) X)) n ≤ 2 * sqF (at0 B) n + 2 * sqF (at0 (lfL m n (arms a b c L (n * 3)) B X)) n := by
    rw [sumN_sq, sumN_sq, sumN_sq, ← sumN_lin]
    refine sumN_le n (fun s hs => two_sq ?_)
    rw [lfL_at X hB]
    refine ext_S ?_ ?_ ?_ ?_ <;> simp only [linS, addS, smS] <;> omega
  have h3 := op_down hz hn L 1 m (by decide) X
  have e3 : sqF (at0 (opT 1 m n (arms a b c L (n * 3)) X)) n = sqF (opE 1 m (arms a b c L (n * 3)) (at0 X)) n := sq_tab _ _
  have mm : 16 ≤ m * m ∧ m * m ≤ 1600 := ⟨by have : (4 : Int) * 4 ≤ m * m := Int.mul_le_mul m4 m4 (by decide) (by omega); omega, by have : m * m ≤ 40 * 40 := Int.mul_le_mul m40 m40 (by omega) (by decide); omega⟩
  have h4 : 16 * sqF (at0 X) n ≤ m * m * sqF (at0 X) n := Int.mul_le_mul_of_nonneg_right mm.1 (sqF_nn _ _)
  have h5 := op_up hz hn hL (-1) m (by decide) (lfL m n (arms a b c L (n * 3)) B X)
  have e5 : sqF (at0 (opT (-1) m n (arms a b c L (n * 3)) (lfL m n (arms a b c L (n * 3)) B X))) n = sqF (opE (-1) m (arms a b c L (n * 3)) (at0 (lfL m n (arms a b c L (n * 3)) B X))) n := sq_tab _ _
  have h6 : (m * m + 144) * sqF (at0 (lfL m n (arms a b c L (n * 3)) B X)) n ≤ 1744 * sqF (at0 (lfL m n (arms a b c L (n * 3)) B X)) n := Int.mul_le_mul_of_nonneg_right (by omega) (sqF_nn _ _)
  refine ⟨fun s hs => bd_of_sq (by decide) h1 hs, fun s hs => bd_of_sq (by decide) (by omega) hs, fun s hs => bd_of_sq (by decide) (by omega) hs, fun s hs => bd_of_sq (by decide) (by omega) hs⟩
theorem opT_zero {k m : Int} {n : Nat} {A : List Arm} : opT k m n A (List.replicate n zs) = List.replicate n zs := by
  refine tab_ext (opT_len _ _ _ _ _) (List.length_replicate ..) (fun s hs => ?_)
  unfold opT
  rw [at0_tab _ hs, at0_repl]
  have e : accF (at0 (List.replicate n zs)) zs (row A s) = zs := by
    have hf : at0 (List.replicate n zs) = fun t => linS 0 0 (at0 (List.replicate n zs) t) (at0 (List.replicate n zs) t) := by
      funext t; rw [at0_repl, zs_lin]
    have := accF_lin 0 0 (at0 (List.replicate n zs)) (at0 (List.replicate n zs)) (row A s) zs zs
    rw [← hf, zs_lin] at this
    rw [this]
    refine ext_S ?_ ?_ ?_ ?_ <;> simp [linS, addS, smS, zs]
  unfold opE
  rw [e, at0_repl, zs_lin]
theorem inv_start {m : Int} {n : Nat} {A : List Arm} {B : List Sp} (hB : B.length = n) : Inv m n A B (List.replicate n zs) := by
  refine ⟨List.length_replicate .., ?_⟩
  have : lfL m n A B (List.replicate n zs) = B := by
    unfold lfL
    rw [opT_zero]
    refine tab_ext (lnL_len _ _ _ _ _) hB (fun s hs => ?_)
    unfold lnL
    rw [at0_tab _ hs, at0_repl]
    refine ext_S ?_ ?_ ?_ ?_ <;> simp [linS, addS, smS, zs]
  rw [this]
  exact Int.le_refl _
/-- the correction at X -/
def cor (ma : Int) (n : Nat) (A : List Arm) (B X : List Sp) : List Sp := coR (4 * ma) (16 * ma * ma + 72) n A (lfL (4 * ma) n A B X)
theorem cor_len (ma : Int) (n : Nat) (A : List Arm) (B X : List Sp) : (cor ma n A B X).length = n := coR_len _ _ _ _ _
/-- the measure of the solver -/
def lefM (ma : Int) (n : Nat) (A : List Arm) (B X : List Sp) : Nat := (sqF (at0 (lfL (4 * ma) n A B X)) n).toNat
theorem inv_step {a b c : Int} {n : Nat} (hz : Sz a b c) (hn : (n : Int) = a * b * c) {L : List Q} (hL : One4 L) {ma : Int} (h1 : 1 ≤ ma) {B X : List Sp} (h : Inv (4 * ma) n (arms a b c L (n * 3)) B X) (hc : ∃ s, s < n ∧ at0 (cor ma n (arms a b c L (n * 3)) B X) s ≠ zs) :
    Inv (4 * ma) n (arms a b c L (n * 3)) B (lnL n 1 1 X (cor ma n (arms a b c L (n * 3)) B X)) ∧ lefM ma n (arms a b c L (n * 3)) B (lnL n 1 1 X (cor ma n (arms a b c L (n * 3)) B X)) < lefM ma n (arms a b c L (n * 3)) B X := by
  have hD : 0 < 16 * ma * ma + 72 := by
    have : 0 ≤ 16 * ma * ma := Int.mul_nonneg (by omega) (by omega)
    omega
  have hs := step_down hz hn hL (m := 4 * ma) (D := 16 * ma * ma + 72) hD (R := lfL (4 * ma) n (arms a b c L (n * 3)) B X) (lfL_len _ _ _ _ _)
  rw [show coR (4 * ma) (16 * ma * ma + 72) n (arms a b c L (n * 3)) (lfL (4 * ma) n (arms a b c L (n * 3)) B X) = cor ma n (arms a b c L (n * 3)) B X from rfl, ← lf_step h.l (cor_len _ _ _ _ _)] at hs
  have e : 2 * (16 * ma * ma + 72) - 4 * ma * (4 * ma) - 144 = 16 * ma * ma := by grind
  rw [e] at hs
  obtain ⟨s, h2, h3⟩ := hc
  have hp : 0 < sqF (at0 (cor ma n (arms a b c L (n * 3)) B X)) n := by
    have := sq_at (f := at0 (cor ma n (arms a b c L (n * 3)) B X)) h2
    have h4 : ¬ dot4 (at0 (cor ma n (arms a b c L (n * 3)) B X) s) (at0 (cor ma n (arms a b c L (n * 3)) B X) s) ≤ 0 := fun h => h3 (dot4_zero h)
    omega
  have hq : 0 < 16 * ma * ma * sqF (at0 (cor ma n (arms a b c L (n * 3)) B X)) n := Int.mul_pos (by have := Int.mul_pos (show 0 < 16 * ma by omega) (show 0 < ma by omega); exact this) hp
  have hn0 := sqF_nn (at0 (lfL (4 * ma) n (arms a b c L (n * 3)) B (lnL n 1 1 X (cor ma n (arms a b c L (n * 3)) B X)))) n
  have hk := h.s
  exact ⟨⟨lnL_len _ _ _ _ _, by omega⟩, by unfold lefM; omega⟩
/-! ### the end -/
/-- rounded -/
def rdS (p : Sp) : Sp := ⟨(p.a + 32768) / 65536, (p.b + 32768) / 65536, (p.c + 32768) / 65536, (p.d + 32768) / 65536⟩
def rdL (n : Nat) (X : List Sp) : List Sp := tab n (fun s => rdS (at0 X s))
theorem rdL_len (n : Nat) (X : List Sp) : (rdL n X).length = n := tab_len _ _
theorem rd_bd {p : Sp} (h : Bd 274877906944 p) : Bd 4194305 (rdS p) := by
  obtain ⟨⟨a1, a2⟩, ⟨b1, b2⟩, ⟨c1, c2⟩, d1, d2⟩ := h
  unfold rdS Bd
  dsimp only
  refine ⟨⟨?_, ?_⟩, ⟨?_, ?_⟩, ⟨?_, ?_⟩, ?_, ?_⟩ <;> omega
theorem rd_rest (p : Sp) : Bd 32768 (linS 65536 (-1) (rdS p) p) := by
  unfold rdS Bd linS addS smS
  dsimp only
  refine ⟨⟨?_, ?_⟩, ⟨?_, ?_⟩, ⟨?_, ?_⟩, ?_, ?_⟩ <;> omega
theorem two_diff (p q : Sp) : dot4 (linS 1 (-1) p q) (linS 1 (-1) p q) ≤ 2 * dot4 p p + 2 * dot4 q q := by
  refine two_sq (p := p) (q := q) ?_
  refine ext_S ?_ ?_ ?_ ?_ <;> simp only [linS, addS, smS] <;> omega
/-- where no correction is left, the rounded solution is near -/
theorem end_near {a b c : Int} {n : Nat} (hz : Sz a b c) (hn : (n : Int) = a * b * c) {L : List Q} (hL : One4 L) {ma : Int} (hma : ma = 1 ∨ ma = 2 ∨ ma = 3 ∨ ma = 4 ∨ ma = 5 ∨ ma = 6 ∨ ma = 7 ∨ ma = 8 ∨ ma = 9 ∨ ma = 10) {N X : List Sp} (hN : N.length = n) (hX : X.length = n)
    (hc : ∀ s, s < n → at0 (cor ma n (arms a b c L (n * 3)) (tab n (fun s => smS 65536 (at0 N s))) X) s = zs) :
    sqF (at0 (lfL (4 * ma) n (arms a b c L (n * 3)) N (rdL n X))) n ≤ (4 * ma + 16) * (4 * ma + 16) * 4 * n := by
  generalize hA : arms a b c L (n * 3) = A at *
  generalize hBB : tab n (fun s => smS 65536 (at0 N s)) = B at *
  have hB : B.length = n := by rw [← hBB, tab_len]
  have hD : 0 < 16 * ma * ma + 72 := by
    have : 0 ≤ 16 * ma * ma := Int.mul_nonneg (by omega) (by omega)
    omega
  -- what is left
  have hy : ∀ s, s < n → Bd (16 * ma * ma + 72) (at0 (opT (-1) (4 * ma) n A (lfL (4 * ma) n A B X)) s) := fun s hs => by
    have := hc s hs
    unfold cor coR quL at this
    rw [at0_tab _ hs] at this
    have h1 := congrArg Sp.a this
    have h2 := congrArg Sp.b this
    have h3 := congrArg Sp.c this
    have h4 := congrArg Sp.d this
    exact ⟨tdiv_zero hD h1, tdiv_zero hD h2, tdiv_zero hD h3, tdiv_zero hD h4⟩
  have h1 := sq_of_bd n hy
  have e1 : sqF (at0 (opT (-1) (4 * ma) n A (lfL (4 * ma) n A B X))) n = sqF (opE (-1) (4 * ma) A (at0 (lfL (4 * ma) n A B X))) n := sq_tab _ _
  have h2 := op_down hz hn L (-1) (4 * ma) (by decide) (lfL (4 * ma) n A B X)
  rw [hA] at h2
  -- what the rounding brings
  have hr : ∀ s, s < n → Bd 32768 (at0 (lnL n 65536 (-1) (rdL n X) X) s) := fun s hs => by
    unfold lnL rdL
    rw [at0_tab _ hs, at0_tab _ hs]
    exact rd_rest _
  have h3 := sq_of_bd n hr
  have h4 := op_up hz hn hL 1 (4 * ma) (by decide) (lnL n 65536 (-1) (rdL n X) X)
  rw [hA] at h4
  have h5 : sqF (fun s => smS 65536 (at0 (lfL (4 * ma) n A N (rdL n X)) s)) n ≤ 2 * sqF (at0 (lfL (4 * ma) n A B X)) n + 2 * sqF (opE 1 (4 * ma) A (at0 (lnL n 65536 (-1) (rdL n X) X))) n := by
    rw [sumN_sq, sumN_sq, sumN_sq, ← sumN_lin]
    refine sumN_le n (fun s hs => ?_)
    have e : smS 65536 (at0 (lfL (4 * ma) n A N (rdL n X)) s) = linS 1 (-1) (at0 (lfL (4 * ma) n A B X) s) (opE 1 (4 * ma) A (at0 (lnL n 65536 (-1) (rdL n X) X)) s) := by
      rw [lnL_at 65536 (-1) (rdL_len n X) hX, opE_lin, lfL_at _ hN, lfL_at _ hB, ← hBB]
      dsimp only
      rw [at0_tab _ hs]
      unfold opT
      rw [at0_tab _ hs, at0_tab _ hs]
      refine ext_S ?_ ?_ ?_ ?_ <;> simp only [linS, addS, smS] <;> omega
    rw [e]
    exact two_diff _ _
  have e5 : sqF (fun s => smS 65536 (at0 (lfL (4 * ma) n A N (rdL n X)) s)) n = 4294967296 * sqF (at0 (lfL (4 * ma) n A N (rdL n X))) n := by
    rw [sumN_sq, sumN_sq, ← sumN_mulr]
    refine sumN_congr n (fun s _ => ?_)
    unfold dot4 smS; grind
  rw [e5] at h5
  rw [e1] at h1
  generalize sqF (at0 (lfL (4 * ma) n A N (rdL n X))) n = r at *
  generalize sqF (at0 (lfL (4 * ma) n A B X)) n = l at *
  generalize sqF (opE 1 (4 * ma) A (at0 (lnL n 65536 (-1) (rdL n X) X))) n = u at *
  generalize sqF (opE (-1) (4 * ma) A (at0 (lfL (4 * ma) n A B X))) n = y at *
  generalize sqF (at0 (lnL n 65536 (-1) (rdL n X) X)) n = v at *
  rcases hma with e | e | e | e | e | e | e | e | e | e <;> subst e <;> omega
end Fm
