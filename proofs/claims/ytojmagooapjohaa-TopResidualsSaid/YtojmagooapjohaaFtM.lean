/- The operator is bounded from below: two vectors are near to each other by their residuals (plain mathematics).
Conditions: none. -/
import Derived.Test.YtojmagooapjohaaFrM
import Derived.Test.YtojmagooapjohaaFsM
set_option autoImplicit false
namespace Fm
set_option linter.unusedVariables false
set_option linter.unusedSimpArgs false
open Um Tm Go.RowKit

/-- the sum of the squares of the first m -/
def sqF (f : Nat → Sp) : Nat → Int
  | 0 => 0
  | m + 1 => sqF f m + dot4 (f m) (f m)
theorem dot4_nn (x : Sp) : 0 ≤ dot4 x x := by
  unfold dot4
  have h1 : ∀ a : Int, 0 ≤ a * a := fun a => by
    rcases Int.le_total 0 a with h | h
    · exact Int.mul_nonneg h h
    · have := Int.mul_nonneg (show 0 ≤ -a by omega) (show 0 ≤ -a by omega)
      rwa [Int.neg_mul_neg] at this
  have := h1 x.a
  have := h1 x.b
  have := h1 x.c
  have := h1 x.d
  omega
theorem sqF_nn (f : Nat → Sp) : ∀ m, 0 ≤ sqF f m
  | 0 => Int.le_refl _
  | m + 1 => by have := sqF_nn f m; have := dot4_nn (f m); show 0 ≤ sqF f m + dot4 (f m) (f m); omega
theorem sqF_mono (f : Nat → Sp) {i j : Nat} (h : i ≤ j) : sqF f i ≤ sqF f j := by
  induction j with
  | zero => rw [show i = 0 by omega]; exact Int.le_refl _
  | succ j ih =>
    by_cases e : i = j + 1
    · rw [e]; exact Int.le_refl _
    · have := ih (by omega)
      have := dot4_nn (f j)
      show sqF f i ≤ sqF f j + dot4 (f j) (f j)
      omega
theorem lin_sq (m : Int) (p q : Sp) : dot4 (linS m 1 p q) (linS m 1 p q) = m * m * dot4 p p + 2 * m * dot4 q p + dot4 q q := by
  unfold linS dot4 addS smS; grind
theorem sq_op (m : Int) (A : List Arm) (X : List Sp) : ∀ k : Nat, sqF (opE 1 m A (at0 X)) k = m * m * sqF (at0 X) k + 2 * m * sumD (fun s => accS X (row A s)) X k + sqF (fun s => accS X (row A s)) k
  | 0 => by show (0 : Int) = m * m * 0 + 2 * m * 0 + 0; omega
  | k + 1 => by
    have ih := sq_op m A X k
    show sqF (opE 1 m A (at0 X)) k + dot4 (opE 1 m A (at0 X) k) (opE 1 m A (at0 X) k) = m * m * (sqF (at0 X) k + dot4 (at0 X k) (at0 X k)) + 2 * m * (sumD (fun s => accS X (row A s)) X k + dot4 (accS X (row A k)) (at0 X k)) + (sqF (fun s => accS X (row A s)) k + dot4 (accS X (row A k)) (accS X (row A k)))
    rw [ih]
    unfold opE
    rw [lin_sq, ← accS_F]
    grind
/-- the operator is bounded from below -/
theorem op_below {a b c : Int} {n k : Nat} (m : Int) (h : Sz a b c) (hn : (n : Int) = a * b * c) (L : List Q) (X : List Sp) (hk : k ≤ n * 3) : m * m * sqF (at0 X) n ≤ sqF (opE 1 m (arms a b c L k) (at0 X)) n := by
  have h1 := sq_op m (arms a b c L k) X n
  have h2 := bal0 h hn L X X k hk
  have h3 := sqF_nn (fun s => accS X (row (arms a b c L k) s)) n
  have h4 : sumD (fun s => accS X (row (arms a b c L k) s)) X n = 0 := by omega
  rw [h4] at h1
  omega
/-! ### Bounds of the operator -/
def Bd (B : Int) (p : Sp) : Prop := (-B ≤ p.a ∧ p.a ≤ B) ∧ (-B ≤ p.b ∧ p.b ≤ B) ∧ (-B ≤ p.c ∧ p.c ≤ B) ∧ (-B ≤ p.d ∧ p.d ≤ B)
theorem prod_bd {x y K : Int} (hx : -2 ≤ x ∧ x ≤ 2) (hy : -K ≤ y ∧ y ≤ K) : -(2 * K) ≤ x * y ∧ x * y ≤ 2 * K := by
  have h : x = -2 ∨ x = -1 ∨ x = 0 ∨ x = 1 ∨ x = 2 := by omega
  rcases h with rfl | rfl | rfl | rfl | rfl <;> omega
theorem mul_bd {q p : Sp} {K : Int} (hq : Bd 2 q) (hp : Bd K p) : Bd (8 * K) (mulS q p) := by
  obtain ⟨q1, q2, q3, q4⟩ := hq
  obtain ⟨p1, p2, p3, p4⟩ := hp
  have a1 := prod_bd q1 p1; have a2 := prod_bd q2 p2; have a3 := prod_bd q3 p3; have a4 := prod_bd q4 p4
  have b1 := prod_bd q1 p2; have b2 := prod_bd q2 p1; have b3 := prod_bd q3 p4; have b4 := prod_bd q4 p3
  have c1 := prod_bd q1 p3; have c2 := prod_bd q2 p4; have c3 := prod_bd q3 p1; have c4 := prod_bd q4 p2
  have d1 := prod_bd q1 p4; have d2 := prod_bd q2 p3; have d3 := prod_bd q3 p2; have d4 := prod_bd q4 p1
  unfold Bd mulS
  refine ⟨?_, ?_, ?_, ?_⟩ <;> dsimp only <;> omega
theorem acc_bd {f : Nat → Sp} {K : Int} (hf : ∀ s, Bd K (f s)) (hK : 0 ≤ K) : ∀ (A : List Arm) (t : Sp) (T : Int), (∀ x, x ∈ A → Bd 2 x.q) → Bd T t → Bd (T + 8 * K * A.length) (accF f t A)
  | [], t, T, _, ht => by simpa [accF] using ht
  | x :: A, t, T, hA, ht => by
    have hm := mul_bd (hA x List.mem_cons_self) (hf x.frm)
    have hs : Bd (T + 8 * K) (addS t (mulS x.q (f x.frm))) := by
      obtain ⟨t1, t2, t3, t4⟩ := ht
      obtain ⟨m1, m2, m3, m4⟩ := hm
      unfold Bd addS
      refine ⟨?_, ?_, ?_, ?_⟩ <;> dsimp only <;> omega
    have := acc_bd hf hK A _ (T + 8 * K) (fun y hy => hA y (List.mem_cons_of_mem _ hy)) hs
    have e : T + 8 * K + 8 * K * A.length = T + 8 * K * ((x :: A).length : Nat) := by
      rw [List.length_cons]
      grind
    rw [e] at this
    exact this
theorem row_len (A : List Arm) (s : Nat) : (row A s).length ≤ A.length := List.length_filter_le _ _
theorem sg3_rng (a b d s : Int) : sg3 a b d s = 1 ∨ sg3 a b d s = -1 := by
  unfold sg3
  have h1 : s % a % 2 = 0 ∨ s % a % 2 = 1 := by omega
  have h2 : (s % a + s / a % b) % 2 = 0 ∨ (s % a + s / a % b) % 2 = 1 := by omega
  repeat' split
  all_goals rcases h1 with h1 | h1 <;> rcases h2 with h2 | h2 <;> simp [h1, h2]
def Sm2 (u : Q) : Prop := Bd 2 (tw u)
theorem fac_bd (a b : Int) {L : List Q} (hL : ∀ x, x ∈ L → Sm2 x) (h1 : Sm2 one) (k : Nat) : Bd 2 (fac a b L k) := by
  unfold fac
  have hu : Sm2 (ln L k) := by
    unfold ln
    by_cases h : k < L.length
    · rw [List.getD_eq_getElem?_getD, List.getElem?_eq_getElem h]; exact hL _ (List.getElem_mem h)
    · rw [List.getD_eq_getElem?_getD, List.getElem?_eq_none (by omega)]; exact h1
  obtain ⟨t1, t2, t3, t4⟩ := hu
  rcases sg3_rng a b ((k % 3 : Nat) : Int) ((k / 3 : Nat) : Int) with e | e <;> rw [e] <;> unfold Bd smS <;> refine ⟨?_, ?_, ?_, ?_⟩ <;> dsimp only <;> omega
theorem flip_bd {p : Sp} (h : Bd 2 p) : Bd 2 (flipS p) := by
  obtain ⟨h1, h2, h3, h4⟩ := h
  unfold Bd flipS
  refine ⟨?_, ?_, ?_, ?_⟩ <;> dsimp only <;> omega
theorem arms_bd (a b c : Int) {L : List Q} (hL : ∀ x, x ∈ L → Sm2 x) (h1 : Sm2 one) : ∀ k, ∀ x, x ∈ arms a b c L k → Bd 2 x.q
  | 0, x, hx => by simp [arms] at hx
  | k + 1, x, hx => by
    have e : arms a b c L (k + 1) = arms a b c L k ++ [arm1 a b c L k] ++ [arm2 a b c L k] := rfl
    rw [e] at hx
    simp only [List.mem_append, List.mem_singleton] at hx
    rcases hx with (hx | rfl) | rfl
    · exact arms_bd a b c hL h1 k x hx
    · exact fac_bd a b hL h1 k
    · exact flip_bd (fac_bd a b hL h1 k)
theorem armsT_len (a b c : Int) (L : List Q) : ∀ k, (arms a b c L k).length = 2 * k
  | 0 => rfl
  | k + 1 => by
    have e : arms a b c L (k + 1) = arms a b c L k ++ [arm1 a b c L k] ++ [arm2 a b c L k] := rfl
    rw [e]; simp [armsT_len a b c L k]; omega
/-- the operator's values have room -/
theorem opE_bd {a b c : Int} {L : List Q} {k : Nat} (hL : ∀ x, x ∈ L → Sm2 x) (h1 : Sm2 one) (hk : k ≤ 48) {f : Nat → Sp} {K : Int} (hf : ∀ s, Bd K (f s)) (hK : 0 ≤ K) {m : Int} (m0 : 0 ≤ m) (m1 : m ≤ 40) (s : Nat) : Bd (808 * K) (opE 1 m (arms a b c L k) f s) := by
  have ha := acc_bd hf hK (row (arms a b c L k) s) zs 0 (fun x hx => arms_bd a b c hL h1 k x ((List.mem_filter.1 hx).1)) ⟨⟨by decide, by decide⟩, ⟨by decide, by decide⟩, ⟨by decide, by decide⟩, ⟨by decide, by decide⟩⟩
  have hl : ((row (arms a b c L k) s).length : Int) ≤ 96 := by have := row_len (arms a b c L k) s; rw [armsT_len] at this; omega
  have hb : 8 * K * ((row (arms a b c L k) s).length : Int) ≤ 8 * K * 96 := Int.mul_le_mul_of_nonneg_left hl (by omega)
  obtain ⟨a1, a2, a3, a4⟩ := ha
  obtain ⟨f1, f2, f3, f4⟩ := hf s
  have pm : ∀ y : Int, -K ≤ y → y ≤ K → -(40 * K) ≤ m * y ∧ m * y ≤ 40 * K := fun y y0 y1 => by
    have u1 : m * y ≤ m * K := Int.mul_le_mul_of_nonneg_left y1 m0
    have u2 : m * -K ≤ m * y := Int.mul_le_mul_of_nonneg_left y0 m0
    have u3 : m * K ≤ 40 * K := Int.mul_le_mul_of_nonneg_right m1 hK
    have u4 : m * -K = -(m * K) := Int.mul_neg ..
    omega
  have p1 := pm _ f1.1 f1.2
  have p2 := pm _ f2.1 f2.2
  have p3 := pm _ f3.1 f3.2
  have p4 := pm _ f4.1 f4.2
  unfold opE linS Bd addS smS
  refine ⟨?_, ?_, ?_, ?_⟩ <;> dsimp only <;> omega
theorem w_bd {p : Sp} {B : Int} (h : Bd B p) (hB : B ≤ 9000000000000000000) : p.w = p := by
  obtain ⟨h1, h2, h3, h4⟩ := h
  unfold Sp.w
  refine ext_S ?_ ?_ ?_ ?_ <;> exact Go.IntWalk.wrap64_in _ (by omega)
theorem at0_out {M : List Sp} {s : Nat} (h : M.length ≤ s) : at0 M s = zs := by unfold at0; rw [List.getD_eq_getElem?_getD, List.getElem?_eq_none h]; rfl
/-- the differences of two vectors -/
def dfL (n : Nat) (V W : List Sp) : List Sp := tab n (fun s => addS (at0 W s) (smS (-1) (at0 V s)))
theorem df_add {n : Nat} {V W : List Sp} (hV : V.length = n) (hW : W.length = n) : at0 W = fun s => addS (at0 (dfL n V W) s) (at0 V s) := by
  funext s
  by_cases h : s < n
  · unfold dfL
    rw [at0_tab _ h]
    refine ext_S ?_ ?_ ?_ ?_ <;> simp only [addS, smS] <;> omega
  · rw [at0_out (by omega), at0_out (M := V) (by omega), at0_out (M := dfL n V W) (by unfold dfL; rw [tab_len]; omega)]
    refine ext_S ?_ ?_ ?_ ?_ <;> simp [addS, zs]
theorem dotK_sq (A : List Sp) : ∀ m, dotK A A m = sqF (at0 A) m
  | 0 => rfl
  | m + 1 => by show dotK A A m + _ = sqF (at0 A) m + _; rw [dotK_sq A m]
theorem two_sq {p q e : Sp} (h : p = addS q e) : dot4 e e ≤ 2 * dot4 p p + 2 * dot4 q q := by
  subst h
  have h1 := dot4_nn (addS (addS q q) e)
  have : 2 * dot4 (addS q e) (addS q e) + 2 * dot4 q q = dot4 e e + dot4 (addS (addS q q) e) (addS (addS q q) e) := by unfold dot4 addS; grind
  omega
theorem rem_exact {a b c : Int} {L : List Q} {n k : Nat} (hL : ∀ x, x ∈ L → Sm2 x) (h1 : Sm2 one) (hk : k ≤ 48) {ma : Int} (m0 : 0 ≤ ma) (m1 : ma ≤ 10) {V N : List Sp} (hN : N.length = n) (hV : ∀ s, Bd 268435456 (at0 V s)) (hNb : ∀ s, Bd 1048576 (at0 N s)) {s : Nat} (hs : s < n) : at0 (axp (-1) N (opL 1 ma n (arms a b c L k) V)) s = addS (at0 N s) (smS (-1) (opE 1 (4 * ma) (arms a b c L k) (at0 V) s)) := by
  have hb := opE_bd (a := a) (b := b) (c := c) hL h1 hk (m := 4 * ma) hV (by omega) (by omega) (by omega) s
  unfold axp
  rw [at0_tab _ (by omega), opL_E, at0_tab _ hs, w_bd hb (by omega)]
  unfold axS
  refine w_bd (B := 217000000000) ?_ (by omega)
  obtain ⟨b1, b2, b3, b4⟩ := hb
  obtain ⟨n1, n2, n3, n4⟩ := hNb s
  unfold Bd addS smS
  refine ⟨?_, ?_, ?_, ?_⟩ <;> dsimp only <;> omega
/-- two vectors with small residuals are near to each other -/
theorem near {a b c : Int} {L : List Q} {n k : Nat} (hz : Sz a b c) (hn : (n : Int) = a * b * c) (hL : ∀ x, x ∈ L → Sm2 x) (h1 : Sm2 one) (hk : k ≤ n * 3) (hn16 : n ≤ 16) {ma : Int} (m0 : 0 ≤ ma) (m1 : ma ≤ 10) {V W N : List Sp} (hVn : V.length = n) (hWn : W.length = n) (hN : N.length = n) (hV : ∀ s, Bd 268435456 (at0 V s)) (hW : ∀ s, Bd 268435456 (at0 W s)) (hNb : ∀ s, Bd 1048576 (at0 N s)) :
    16 * ma * ma * sqF (at0 (dfL n V W)) n ≤ 2 * (dotL (axp (-1) N (opL 1 ma n (arms a b c L k) V)) (axp (-1) N (opL 1 ma n (arms a b c L k) V)) + dotL (axp (-1) N (opL 1 ma n (arms a b c L k) W)) (axp (-1) N (opL 1 ma n (arms a b c L k) W))) := by
  have hb := op_below (4 * ma) hz hn L (dfL n V W) hk
  have key : ∀ j, j ≤ n → sqF (opE 1 (4 * ma) (arms a b c L k) (at0 (dfL n V W))) j ≤ 2 * (dotK (axp (-1) N (opL 1 ma n (arms a b c L k) V)) (axp (-1) N (opL 1 ma n (arms a b c L k) V)) j + dotK (axp (-1) N (opL 1 ma n (arms a b c L k) W)) (axp (-1) N (opL 1 ma n (arms a b c L k) W)) j) := by
    intro j
    induction j with
    | zero => intro _; exact Int.le_refl _
    | succ j ih =>
      intro hj
      have i := ih (by omega)
      have eV := rem_exact (a := a) (b := b) (c := c) hL h1 (show k ≤ 48 by omega) m0 m1 hN hV hNb (show j < n by omega)
      have eW := rem_exact (a := a) (b := b) (c := c) hL h1 (show k ≤ 48 by omega) m0 m1 hN hW hNb (show j < n by omega)
      have hp : at0 (axp (-1) N (opL 1 ma n (arms a b c L k) V)) j = addS (at0 (axp (-1) N (opL 1 ma n (arms a b c L k) W)) j) (opE 1 (4 * ma) (arms a b c L k) (at0 (dfL n V W)) j) := by
        rw [eV, eW, df_add hVn hWn, op_add]
        refine ext_S ?_ ?_ ?_ ?_ <;> simp only [addS, smS] <;> omega
      have := two_sq hp
      show sqF _ j + dot4 _ _ ≤ 2 * (dotK _ _ j + dot4 _ _ + (dotK _ _ j + dot4 _ _))
      omega
  have h := key n (Nat.le_refl _)
  have l1 : ∀ Z : List Sp, (axp (-1) N Z).length = n := fun Z => by rw [axp_len, hN]
  unfold dotL
  rw [l1, l1]
  have e : 4 * ma * (4 * ma) = 16 * ma * ma := by grind
  rw [e] at hb
  omega
end Fm
