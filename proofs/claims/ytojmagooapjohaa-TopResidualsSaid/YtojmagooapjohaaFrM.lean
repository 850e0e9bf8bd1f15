/- The hopping is antisymmetric (mathematics of numbers modulo 2 to the 64).
Conditions: none. -/
import Derived.Test.YtojmagooapjohaaFermM
namespace Fm
set_option linter.unusedVariables false
set_option linter.unusedSimpArgs false
open Um Tm Go.RowKit

/-- the sum of the products of m values and of the first m of a vector -/
def sumD (f : Nat → Sp) (N : List Sp) : Nat → Int
  | 0 => 0
  | m + 1 => sumD f N m + dot4 (f m) (at0 N m)
theorem dotK_tab {n : Nat} (f : Nat → Sp) (N : List Sp) : ∀ m : Nat, m ≤ n → dotK (tab n f) N m = sumD f N m
  | 0, _ => rfl
  | m + 1, h => by
    show dotK (tab n f) N m + dot4 (at0 (tab n f) m) (at0 N m) = sumD f N m + dot4 (f m) (at0 N m)
    rw [dotK_tab f N m (by omega), at0_tab f (by omega)]
theorem dotL_tab (n : Nat) (f : Nat → Sp) (N : List Sp) : dotL (tab n f) N = sumD f N n := by
  unfold dotL; rw [tab_len]; exact dotK_tab f N n (Nat.le_refl _)
theorem w_congr_add {x y z t : Int} (h : wrap64 x = wrap64 y) (k : wrap64 z = wrap64 t) : wrap64 (x + z) = wrap64 (y + t) := by
  rw [← w_add_l, h, w_add_l, ← w_add_r, k, w_add_r]
theorem dot4_w (p q : Sp) : wrap64 (dot4 p.w q) = wrap64 (dot4 p q) := by
  unfold dot4 Sp.w
  refine w_congr_add (w_congr_add (w_congr_add ?_ ?_) ?_) ?_ <;> exact w_mul_l _ _
theorem sumD_w (f : Nat → Sp) (N : List Sp) : ∀ m : Nat, wrap64 (sumD (fun s => (f s).w) N m) = wrap64 (sumD f N m)
  | 0 => rfl
  | m + 1 => w_congr_add (sumD_w f N m) (dot4_w _ _)
theorem dot4_add (p q r : Sp) : dot4 (addS p q) r = dot4 p r + dot4 q r := by unfold dot4 addS; grind
theorem sum_snoc (A : List Arm) (x : Arm) (v w : List Sp) : ∀ m : Nat, sumD (fun s => accS v (row (A ++ [x]) s)) w m = sumD (fun s => accS v (row A s)) w m + (if x.to < m then dot4 (mulS x.q (at0 v x.frm)) (at0 w x.to) else 0)
  | 0 => rfl
  | m + 1 => by
    show sumD (fun s => accS v (row (A ++ [x]) s)) w m + dot4 (accS v (row (A ++ [x]) m)) (at0 w m) = sumD (fun s => accS v (row A s)) w m + dot4 (accS v (row A m)) (at0 w m) + _
    rw [sum_snoc A x v w m, row_snoc]
    by_cases h1 : x.to = m
    · subst h1
      rw [if_pos rfl, if_neg (by omega), if_pos (by omega), accS_snoc, dot4_add]
      omega
    · rw [if_neg h1]
      by_cases h2 : x.to < m
      · rw [if_pos h2, if_pos (by omega)]; omega
      · rw [if_neg h2, if_neg (by omega), Int.add_zero, Int.add_zero]
theorem flip_dot (t x y z u : Sp) : dot4 (mulS t x) y + dot4 (mulS (flipS t) z) u + (dot4 (mulS t u) z + dot4 (mulS (flipS t) y) x) = 0 := by
  unfold dot4 mulS flipS; grind
theorem bal0 {a b c : Int} {n : Nat} (h : Sz a b c) (hn : (n : Int) = a * b * c) (L : List Q) (v w : List Sp) : ∀ k : Nat, k ≤ n * 3 → sumD (fun s => accS v (row (arms a b c L k) s)) w n + sumD (fun s => accS w (row (arms a b c L k) s)) v n = 0
  | 0, _ => by
    have z : ∀ (v w : List Sp) (m : Nat), sumD (fun s => accS v (row (arms a b c L 0) s)) w m = 0 := fun v w m => by
      induction m with
      | zero => rfl
      | succ m ih =>
        show sumD (fun s => accS v (row (arms a b c L 0) s)) w m + dot4 zs (at0 w m) = 0
        rw [ih]; unfold dot4 zs; grind
    rw [z, z]; rfl
  | k + 1, hk => by
    have ih := bal0 h hn L v w k (by omega)
    have ht := (nxl_rng h k).2
    have h1 : k / 3 < n := by omega
    have h2 : nxl a b c k < n := by omega
    have e : arms a b c L (k + 1) = arms a b c L k ++ [arm1 a b c L k] ++ [arm2 a b c L k] := rfl
    rw [e, sum_snoc, sum_snoc, sum_snoc, sum_snoc]
    unfold arm1 arm2
    dsimp only
    rw [if_pos h1, if_pos h2, if_pos h1, if_pos h2]
    have := flip_dot (fac a b L k) (at0 v (nxl a b c k)) (at0 w (k / 3)) (at0 v (k / 3)) (at0 w (nxl a b c k))
    omega
theorem hop_sum (n : Nat) (A : List Arm) (v w : List Sp) : wrap64 (dotL (hopL n A v) w) = wrap64 (sumD (fun s => accS v (row A s)) w n) := by
  rw [hopL_tab, dotL_tab, sumD_w]
theorem bal1 {a b c : Int} {n k : Nat} (h : Sz a b c) (hn : (n : Int) = a * b * c) (L : List Q) (v w : List Sp) (hk : k ≤ n * 3) (hv : v.length = n) : wrap64 (dotL (hopL n (arms a b c L k) v) w) = wrap64 (-wrap64 (dotL v (hopL n (arms a b c L k) w))) := by
  rw [w_neg, dotL_comm (A := v) (by rw [hopL_len, hv]), ← w_neg, hop_sum, hop_sum, w_neg]
  have := bal0 h hn L v w k hk
  congr 1; omega
theorem ax_dot (m : Int) (x y : Sp) : wrap64 (dot4 (axS 1 (axS m zs x) y) x) = wrap64 (m * dot4 x x + dot4 y x) := by
  unfold axS
  rw [dot4_w, dot4_add]
  refine (w_congr_add (dot4_w _ _) rfl).trans ?_
  congr 1
  unfold dot4 addS smS zs; grind
theorem op_sum (m : Int) (v H : List Sp) : ∀ k : Nat, wrap64 (sumD (fun s => axS 1 (axS m zs (at0 v s)) (at0 H s)) v k) = wrap64 (m * dotK v v k + dotK H v k)
  | 0 => by unfold sumD dotK; congr 1; grind
  | k + 1 => by
    refine (w_congr_add (op_sum m v H k) (ax_dot m (at0 v k) (at0 H k))).trans ?_
    congr 1
    rw [show dotK v v (k + 1) = dotK v v k + dot4 (at0 v k) (at0 v k) from rfl, show dotK H v (k + 1) = dotK H v k + dot4 (at0 H k) (at0 v k) from rfl]
    generalize dotK v v k = p
    generalize dotK H v k = q
    grind
theorem bal2 {a b c : Int} {n k : Nat} (ma : Int) (h : Sz a b c) (hn : (n : Int) = a * b * c) (L : List Q) (v : List Sp) (hk : k ≤ n * 3) (hv : v.length = n) : wrap64 (dotL v (opL 1 ma n (arms a b c L k) v)) = wrap64 (4 * ma * wrap64 (dotL v v)) := by
  rw [dotL_comm (A := v) (by rw [opL_len, hv]), w_mul_r]
  unfold opL
  rw [dotL_tab, op_sum]
  have h1 := hop_sum n (arms a b c L k) v v
  have h2 := bal0 h hn L v v k hk
  rw [show sumD (fun s => accS v (row (arms a b c L k) s)) v n = 0 by omega] at h1
  have e1 : dotL (hopL n (arms a b c L k) v) v = dotK (hopL n (arms a b c L k) v) v n := by unfold dotL; rw [hopL_len]
  have e2 : dotL v v = dotK v v n := by unfold dotL; rw [hv]
  rw [e1] at h1
  rw [e2, ← w_add_r, h1, w_add_r, Int.add_zero]
end Fm
