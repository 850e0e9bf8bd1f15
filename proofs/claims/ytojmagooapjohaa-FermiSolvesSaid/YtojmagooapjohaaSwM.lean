/- The solver of the operator: what each step keeps, and that it ends near the solution (mathematics).
Conditions: those written at each theorem. -/
import Derived.Test.YtojmagooapjohaaSvM
set_option autoImplicit false
set_option maxRecDepth 1000000
namespace Fm
set_option linter.unusedVariables false
set_option linter.unusedSimpArgs false
open Um Tm Go.RowKit

/-- the product of two vectors -/
def ip (f g : Nat → Sp) (n : Nat) : Int := sumN (fun s => dot4 (f s) (g s)) n
theorem ip_sumD (f : Nat → Sp) (N : List Sp) : ∀ m, sumD f N m = ip f (at0 N) m
  | 0 => rfl
  | m + 1 => by show sumD f N m + _ = sumN _ m + _; rw [ip_sumD f N m]; rfl
theorem ip_comm (f g : Nat → Sp) (n : Nat) : ip f g n = ip g f n := sumN_congr n (fun s _ => dot4_comm _ _)
theorem ip_lin_l (j k : Int) (f g h : Nat → Sp) (n : Nat) : ip (fun s => linS j k (f s) (g s)) h n = j * ip f h n + k * ip g h n := by
  unfold ip
  rw [← sumN_lin]
  refine sumN_congr n (fun s _ => ?_)
  unfold dot4 linS addS smS; grind
theorem ip_lin_r (j k : Int) (f g h : Nat → Sp) (n : Nat) : ip h (fun s => linS j k (f s) (g s)) n = j * ip h f n + k * ip h g n := by
  rw [ip_comm, ip_lin_l, ip_comm f, ip_comm g]
theorem sq_ip (f : Nat → Sp) (n : Nat) : sqF f n = ip f f n := sumN_sq f n
theorem sq_lin (j k : Int) (f g : Nat → Sp) (n : Nat) : sqF (fun s => linS j k (f s) (g s)) n = j * j * sqF f n + 2 * j * k * ip f g n + k * k * sqF g n := by
  rw [sq_ip, ip_lin_l, ip_lin_r, ip_lin_r, ip_comm g f, ← sq_ip, ← sq_ip]
  grind
theorem opE_hp (k m : Int) (A : List Arm) (f : Nat → Sp) : opE k m A f = fun s => linS m k (f s) (hp A f s) := rfl
theorem bal_ip {a b c : Int} {n : Nat} (hz : Sz a b c) (hn : (n : Int) = a * b * c) (L : List Q) (R C : List Sp) : ip (hp (arms a b c L (n * 3)) (at0 R)) (at0 C) n + ip (hp (arms a b c L (n * 3)) (at0 C)) (at0 R) n = 0 := by
  have := bal0 hz hn L R C (n * 3) (Nat.le_refl _)
  rw [ip_sumD, ip_sumD] at this
  exact this
theorem adj {a b c : Int} {n : Nat} (hz : Sz a b c) (hn : (n : Int) = a * b * c) (L : List Q) (m : Int) (R C : List Sp) : ip (opE (-1) m (arms a b c L (n * 3)) (at0 R)) (at0 C) n = ip (at0 R) (opE 1 m (arms a b c L (n * 3)) (at0 C)) n := by
  have := bal_ip hz hn L R C
  rw [opE_hp, opE_hp, ip_lin_l, ip_lin_r, ip_comm (at0 R) (hp _ _)]
  omega
theorem op_norm {a b c : Int} {n : Nat} (hz : Sz a b c) (hn : (n : Int) = a * b * c) (L : List Q) (k m : Int) (hk : k * k = 1) (X : List Sp) : sqF (opE k m (arms a b c L (n * 3)) (at0 X)) n = m * m * sqF (at0 X) n + sqF (hp (arms a b c L (n * 3)) (at0 X)) n := by
  have h := bal_ip hz hn L X X
  have h0 : ip (at0 X) (hp (arms a b c L (n * 3)) (at0 X)) n = 0 := by rw [ip_comm]; omega
  rw [opE_hp, sq_lin, h0, hk]
  omega
theorem op_up {a b c : Int} {n : Nat} (hz : Sz a b c) (hn : (n : Int) = a * b * c) {L : List Q} (hL : One4 L) (k m : Int) (hk : k * k = 1) (X : List Sp) : sqF (opE k m (arms a b c L (n * 3)) (at0 X)) n ≤ (m * m + 144) * sqF (at0 X) n := by
  have h1 := op_norm hz hn L k m hk X
  have h2 := hop_bound hz hn hL (at0 X)
  rw [Int.add_mul]
  omega
theorem op_down {a b c : Int} {n : Nat} (hz : Sz a b c) (hn : (n : Int) = a * b * c) (L : List Q) (k m : Int) (hk : k * k = 1) (X : List Sp) : m * m * sqF (at0 X) n ≤ sqF (opE k m (arms a b c L (n * 3)) (at0 X)) n := by
  have h1 := op_norm hz hn L k m hk X
  have h2 := sqF_nn (hp (arms a b c L (n * 3)) (at0 X)) n
  omega
/-! ### lists and their sums -/
theorem opE_lin (k m i j : Int) (A : List Arm) (f g : Nat → Sp) (s : Nat) : opE k m A (fun t => linS i j (f t) (g t)) s = linS i j (opE k m A f s) (opE k m A g s) := by
  have := accF_lin i j f g (row A s) zs zs
  rw [zs_lin] at this
  unfold opE
  rw [this]
  refine ext_S ?_ ?_ ?_ ?_ <;> simp only [linS, addS, smS] <;> grind
/-- a sum of multiples of two vectors -/
def lnL (n : Nat) (i j : Int) (V W : List Sp) : List Sp := tab n (fun s => linS i j (at0 V s) (at0 W s))
theorem lnL_len (n : Nat) (i j : Int) (V W : List Sp) : (lnL n i j V W).length = n := tab_len _ _
theorem lnL_at {n : Nat} (i j : Int) {V W : List Sp} (hV : V.length = n) (hW : W.length = n) : at0 (lnL n i j V W) = fun s => linS i j (at0 V s) (at0 W s) := by
  funext s
  by_cases h : s < n
  · unfold lnL
    rw [at0_tab _ h]
  · rw [at0_out (M := lnL n i j V W) (by rw [lnL_len]; omega), at0_out (M := V) (by omega), at0_out (M := W) (by omega), zs_lin]
/-- the operator's values, exact -/
def opT (k m : Int) (n : Nat) (A : List Arm) (X : List Sp) : List Sp := tab n (opE k m A (at0 X))
theorem opT_len (k m : Int) (n : Nat) (A : List Arm) (X : List Sp) : (opT k m n A X).length = n := tab_len _ _
theorem sq_tab (f : Nat → Sp) (n : Nat) : sqF (at0 (tab n f)) n = sqF f n := by
  rw [sumN_sq, sumN_sq]
  exact sumN_congr n (fun s hs => by rw [at0_tab _ hs])
theorem ip_tab_r (f g : Nat → Sp) (n : Nat) : ip f (at0 (tab n g)) n = ip f g n := sumN_congr n (fun s hs => by rw [at0_tab _ hs])
theorem ip_tab_l (f g : Nat → Sp) (n : Nat) : ip (at0 (tab n g)) f n = ip g f n := sumN_congr n (fun s hs => by rw [at0_tab _ hs])
theorem tab_ext {n : Nat} {V W : List Sp} (hV : V.length = n) (hW : W.length = n) (h : ∀ s, s < n → at0 V s = at0 W s) : V = W := by
  rw [← tab_self V, ← tab_self W, hV, hW]
  exact tab_congr h
/-! ### bounds out of the sum of squares -/
theorem sq_at {f : Nat → Sp} {n s : Nat} (hs : s < n) : dot4 (f s) (f s) ≤ sqF f n := by
  have := sqF_mono f (show s + 1 ≤ n by omega)
  have h2 : sqF f (s + 1) = sqF f s + dot4 (f s) (f s) := rfl
  have := sqF_nn f s
  omega
theorem abs_of_sq {x K : Int} (hK : 0 ≤ K) (h : x * x ≤ K * K) : -K ≤ x ∧ x ≤ K := by
  refine ⟨?_, ?_⟩
  · by_cases h1 : -K ≤ x
    · exact h1
    · have : (K + 1) * (K + 1) ≤ (-x) * (-x) := Int.mul_le_mul (by omega) (by omega) (by omega) (by omega)
      rw [Int.neg_mul_neg] at this
      have e : (K + 1) * (K + 1) = K * K + 2 * K + 1 := by grind
      omega
  · by_cases h1 : x ≤ K
    · exact h1
    · have : (K + 1) * (K + 1) ≤ x * x := Int.mul_le_mul (by omega) (by omega) (by omega) (by omega)
      have e : (K + 1) * (K + 1) = K * K + 2 * K + 1 := by grind
      omega
theorem bd_of_dot {p : Sp} {K : Int} (hK : 0 ≤ K) (h : dot4 p p ≤ K * K) : Bd K p := by
  have h1 := sq_nn p.a
  have h2 := sq_nn p.b
  have h3 := sq_nn p.c
  have h4 := sq_nn p.d
  have e : dot4 p p = p.a * p.a + p.b * p.b + p.c * p.c + p.d * p.d := rfl
  exact ⟨abs_of_sq hK (by omega), abs_of_sq hK (by omega), abs_of_sq hK (by omega), abs_of_sq hK (by omega)⟩
theorem bd_of_sq {f : Nat → Sp} {n : Nat} {K : Int} (hK : 0 ≤ K) (h : sqF f n ≤ K * K) {s : Nat} (hs : s < n) : Bd K (f s) := bd_of_dot hK (Int.le_trans (sq_at hs) h)
theorem dot_of_bd {p : Sp} {K : Int} (h : Bd K p) : dot4 p p ≤ 4 * (K * K) := by
  obtain ⟨h1, h2, h3, h4⟩ := h
  have z : ∀ x : Int, -K ≤ x ∧ x ≤ K → x * x ≤ K * K := fun x hx => by
    have h5 : 0 ≤ (K - x) * (K + x) := Int.mul_nonneg (by omega) (by omega)
    have e : (K - x) * (K + x) = K * K - x * x := by grind
    omega
  have := z _ h1
  have := z _ h2
  have := z _ h3
  have := z _ h4
  have e : dot4 p p = p.a * p.a + p.b * p.b + p.c * p.c + p.d * p.d := rfl
  omega
theorem sq_of_bd {f : Nat → Sp} {K : Int} : ∀ n, (∀ s, s < n → Bd K (f s)) → sqF f n ≤ n * (4 * (K * K))
  | 0, _ => by show (0 : Int) ≤ _; simp
  | n + 1, h => by
    have h1 := sq_of_bd n (fun s hs => h s (by omega))
    have h2 := dot_of_bd (h n (by omega))
    have e : ((n + 1 : Nat) : Int) * (4 * (K * K)) = n * (4 * (K * K)) + 4 * (K * K) := by push_cast; grind
    show sqF f n + _ ≤ _
    omega
/-! ### one step -/
/-- a quaternion divided, each entry toward 0 -/
def quS (D : Int) (p : Sp) : Sp := ⟨p.a.tdiv D, p.b.tdiv D, p.c.tdiv D, p.d.tdiv D⟩
theorem tdiv_sq {D : Int} (hD : 0 < D) (y : Int) : D * (y.tdiv D * y.tdiv D) ≤ y * y.tdiv D := by
  have pos : ∀ y : Int, 0 ≤ y → D * (y.tdiv D * y.tdiv D) ≤ y * y.tdiv D := fun y hy => by
    rw [Int.tdiv_eq_ediv_of_nonneg hy]
    have h1 : 0 ≤ y / D := Int.ediv_nonneg hy (by omega)
    have h2 : D * (y / D) ≤ y := Int.mul_ediv_self_le (by omega)
    have := Int.mul_le_mul_of_nonneg_right h2 h1
    rwa [Int.mul_assoc] at this
  by_cases h : 0 ≤ y
  · exact pos y h
  · have := pos (-y) (by omega)
    rw [Int.neg_tdiv, Int.neg_mul_neg, Int.neg_mul_neg] at this
    exact this
theorem tdiv_zero {D y : Int} (hD : 0 < D) (h : y.tdiv D = 0) : -D ≤ y ∧ y ≤ D := by
  have pos : ∀ y : Int, 0 ≤ y → y.tdiv D = 0 → y ≤ D := fun y hy h => by
    rw [Int.tdiv_eq_ediv_of_nonneg hy] at h
    have h1 := Int.mul_ediv_add_emod y D
    have h2 := Int.emod_lt_of_pos y hD
    rw [h] at h1
    omega
  by_cases h0 : 0 ≤ y
  · exact ⟨by omega, pos y h0 h⟩
  · have := pos (-y) (by omega) (by rw [Int.neg_tdiv, h]; rfl)
    omega
theorem quS_ge {D : Int} (hD : 0 < D) (p : Sp) : D * dot4 (quS D p) (quS D p) ≤ dot4 p (quS D p) := by
  have h1 := tdiv_sq hD p.a
  have h2 := tdiv_sq hD p.b
  have h3 := tdiv_sq hD p.c
  have h4 := tdiv_sq hD p.d
  unfold dot4 quS
  dsimp only
  rw [Int.mul_add, Int.mul_add, Int.mul_add]
  omega
/-- a vector divided -/
def quL (D : Int) (n : Nat) (V : List Sp) : List Sp := tab n (fun s => quS D (at0 V s))
theorem quL_len (D : Int) (n : Nat) (V : List Sp) : (quL D n V).length = n := tab_len _ _
theorem sumN_mulr (k : Int) (g : Nat → Int) : ∀ m, sumN (fun s => k * g s) m = k * sumN g m
  | 0 => by show (0 : Int) = k * 0; omega
  | m + 1 => by
    show sumN (fun s => k * g s) m + k * g m = k * (sumN g m + g m)
    rw [sumN_mulr k g m]; grind
theorem qu_ip {D : Int} (hD : 0 < D) (n : Nat) (V : List Sp) : D * sqF (at0 (quL D n V)) n ≤ ip (at0 V) (at0 (quL D n V)) n := by
  unfold quL
  rw [sq_tab, ip_tab_r, sumN_sq, ← sumN_mulr]
  exact sumN_le n (fun s _ => quS_ge hD _)
/-- what is left of a source -/
def lfL (m : Int) (n : Nat) (A : List Arm) (B X : List Sp) : List Sp := lnL n 1 (-1) B (opT 1 m n A X)
theorem lfL_len (m : Int) (n : Nat) (A : List Arm) (B X : List Sp) : (lfL m n A B X).length = n := tab_len _ _
theorem lfL_at {m : Int} {n : Nat} {A : List Arm} {B : List Sp} (X : List Sp) (hB : B.length = n) : at0 (lfL m n A B X) = fun s => linS 1 (-1) (at0 B s) (at0 (opT 1 m n A X) s) := lnL_at 1 (-1) hB (opT_len _ _ _ _ _)
theorem opT_add {m : Int} {n : Nat} {A : List Arm} {X C : List Sp} (hX : X.length = n) (hC : C.length = n) : opT 1 m n A (lnL n 1 1 X C) = lnL n 1 1 (opT 1 m n A X) (opT 1 m n A C) := by
  unfold opT
  rw [lnL_at 1 1 hX hC]
  refine tab_congr fun s hs => ?_
  rw [opE_lin, at0_tab _ hs, at0_tab _ hs]
theorem lf_step {m : Int} {n : Nat} {A : List Arm} {B X C : List Sp} (hX : X.length = n) (hC : C.length = n) : lfL m n A B (lnL n 1 1 X C) = lnL n 1 (-1) (lfL m n A B X) (opT 1 m n A C) := by
  unfold lfL
  rw [opT_add hX hC]
  refine tab_congr fun s hs => ?_
  unfold lnL
  rw [at0_tab _ hs, at0_tab _ hs]
  refine ext_S ?_ ?_ ?_ ?_ <;> simp only [linS, addS, smS] <;> omega
/-- the correction of a step -/
def coR (m D : Int) (n : Nat) (A : List Arm) (R : List Sp) : List Sp := quL D n (opT (-1) m n A R)
theorem coR_len (m D : Int) (n : Nat) (A : List Arm) (R : List Sp) : (coR m D n A R).length = n := quL_len _ _ _
theorem step_down {a b c : Int} {n : Nat} (hz : Sz a b c) (hn : (n : Int) = a * b * c) {L : List Q} (hL : One4 L) {m D : Int} (hD : 0 < D) {R : List Sp} (hR : R.length = n) :
    sqF (at0 (lnL n 1 (-1) R (opT 1 m n (arms a b c L (n * 3)) (coR m D n (arms a b c L (n * 3)) R)))) n + (2 * D - m * m - 144) * sqF (at0 (coR m D n (arms a b c L (n * 3)) R)) n ≤ sqF (at0 R) n := by
  generalize hC : coR m D n (arms a b c L (n * 3)) R = C
  have h1 := qu_ip hD n (opT (-1) m n (arms a b c L (n * 3)) R)
  rw [show quL D n (opT (-1) m n (arms a b c L (n * 3)) R) = C from hC] at h1
  have h2 : ip (at0 (opT (-1) m n (arms a b c L (n * 3)) R)) (at0 C) n = ip (at0 R) (at0 (opT 1 m n (arms a b c L (n * 3)) C)) n := by
    unfold opT
    rw [ip_tab_l, ip_tab_r]
    exact adj hz hn L m R C
  have h3 := op_up hz hn hL 1 m (by decide) C
  have h4 : sqF (at0 (opT 1 m n (arms a b c L (n * 3)) C)) n = sqF (opE 1 m (arms a b c L (n * 3)) (at0 C)) n := sq_tab _ _
  rw [lnL_at 1 (-1) hR (opT_len _ _ _ _ _), sq_lin]
  have e : (2 * D - m * m - 144) * sqF (at0 C) n = 2 * (D * sqF (at0 C) n) - (m * m + 144) * sqF (at0 C) n := by grind
  omega
end Fm
