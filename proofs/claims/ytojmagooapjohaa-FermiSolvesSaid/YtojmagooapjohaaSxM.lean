/- The solver of the operator: the program's numbers are exact, each step shortens what is left, and the end is near (mathematics).
Conditions: those written at each theorem. -/
import Derived.Test.YtojmagooapjohaaSwM
set_option autoImplicit false
set_option maxRecDepth 1000000
namespace Fm
set_option linter.unusedVariables false
set_option linter.unusedSimpArgs false
open Um Tm Go.RowKit

theorem bd_w {p : Sp} {K : Int} (h : Bd K p) (hK : K ≤ 9000000000000000000) : p.w = p := w_bd h hK
theorem bd_le {p : Sp} {J K : Int} (h : Bd J p) (hK : J ≤ K) : Bd K p := by
  obtain ⟨⟨a1, a2⟩, ⟨b1, b2⟩, ⟨c1, c2⟩, d1, d2⟩ := h
  exact ⟨⟨by omega, by omega⟩, ⟨by omega, by omega⟩, ⟨by omega, by omega⟩, by omega, by omega⟩
theorem bd_lin {p q : Sp} {J K : Int} (h : Bd J p) (g : Bd K q) : Bd (J + K) (linS 1 (-1) p q) ∧ Bd (J + K) (linS 1 1 p q) := by
  obtain ⟨⟨a1, a2⟩, ⟨b1, b2⟩, ⟨c1, c2⟩, d1, d2⟩ := h
  obtain ⟨⟨a3, a4⟩, ⟨b3, b4⟩, ⟨c3, c4⟩, d3, d4⟩ := g
  unfold linS addS smS Bd
  dsimp only
  refine ⟨⟨⟨?_, ?_⟩, ⟨?_, ?_⟩, ⟨?_, ?_⟩, ?_, ?_⟩, ⟨?_, ?_⟩, ⟨?_, ?_⟩, ⟨?_, ?_⟩, ?_, ?_⟩ <;> omega
theorem prog_op {k ma : Int} {n : Nat} {A : List Arm} {X : List Sp} {K : Int} (h : ∀ s, s < n → Bd K (at0 (opT k (4 * ma) n A X) s)) (hK : K ≤ 4000000000000000000) : opL k ma n A X = opT k (4 * ma) n A X := by
  rw [opL_E]
  unfold opT
  refine tab_congr fun s hs => ?_
  have := h s hs
  unfold opT at this
  rw [at0_tab _ hs] at this
  exact bd_w this (by omega)
theorem prog_left {ma : Int} {n : Nat} {A : List Arm} {B X : List Sp} {J K : Int} (hB : B.length = n) (hJ : ∀ s, s < n → Bd J (at0 B s)) (hJ2 : J ≤ 4000000000000000000) (h : ∀ s, s < n → Bd K (at0 (opT 1 (4 * ma) n A X) s)) (hK : K ≤ 4000000000000000000) : axp (-1) B (opL 1 ma n A X) = lfL (4 * ma) n A B X := by
  rw [prog_op h hK]
  unfold axp lfL lnL
  rw [hB]
  refine tab_congr fun s hs => ?_
  have := (bd_lin (hJ s hs) (h s hs)).1
  rw [← bd_w this (by omega)]
  unfold axS linS
  congr 1
  refine ext_S ?_ ?_ ?_ ?_ <;> simp only [addS, smS] <;> omega
/-! ### what is kept -/
/-- what the solver keeps -/
structure Inv (m : Int) (n : Nat) (A : List Arm) (B X : List Sp) : Prop where
  l : X.length = n
  s : sqF (at0 (lfL m n A B X)) n ≤ sqF (at0 B) n
theorem inv_bounds {a b c : Int} {n : Nat} (hz : Sz a b c) (hn : (n : Int) = a * b * c) {L : List Q} (hL : One4 L) {m : Int} (m4 : 4 ≤ m) (m40 : m ≤ 40) {B X : List Sp} (hB : B.length = n) (hBs : sqF (at0 B) n ≤ 549755813888 * 549755813888) (h : Inv m n (arms a b c L (n * 3)) B X) :
    (∀ s, s < n → Bd 549755813888 (at0 (lfL m n (arms a b c L (n * 3)) B X) s)) ∧ (∀ s, s < n → Bd 1099511627776 (at0 (opT 1 m n (arms a b c L (n * 3)) X) s)) ∧ (∀ s, s < n → Bd 274877906944 (at0 X s)) ∧ (∀ s, s < n → Bd 35184372088832 (at0 (opT (-1) m n (arms a b c L (n * 3)) (lfL m n (arms a b c L (n * 3)) B X)) s)) := by
  have h0 := h.s
  have h1 : sqF (at0 (lfL m n (arms a b c L (n * 3)) B X)) n ≤ 549755813888 * 549755813888 := Int.le_trans h0 hBs
  have h2 : sqF (at0 (opT 1 m n (arms a b c L (n * 3)) X)) n ≤ 2 * sqF (at0 B) n + 2 * sqF (at0 (lfL m n (arms a b c L (n * 3)) B X)) n := by
    rw [sumN_sq, sumN_sq, sumN_sq, ← sumN_lin]
    refine sumN_le n (fun s hs => two_sq ?_)
    rw [lfL_at X hB]
    refine ext_S ?_ ?_ ?_ ?_ <;> simp only [linS, addS, smS] <;> omega
  have h3 := op_down hz hn L 1 m (by decide) X
  have e3 : sqF (at0 (opT 1 m n (arms a b c L (n * 3)) X)) n = sqF (opE 1 m (arms a b c L (n * 3)) (at0 X)) n := sq_tab _ _
  have mm : 16 ≤ m * m ∧ m * m ≤ 1600 := ⟨by have : (4 : Int) * 4 ≤ m * m := Int.mul_le_mul m4 m4 (by decide) (by omega); omega, by have : m * m ≤ 40 * 40 := Int.mul_le_mul m40 m40 (by omega) (by decide); omega⟩
  have h4 : 16 * sqF (at0 X) n ≤ m * m * sqF (at0 X) n := Int.mul_le_mul_of_nonneg_right mm.1 (sqF_nn _ _)
  have h5 := op_up hz hn hL (-1) m (by decide) (lfL m n (arms a b c L (n * 3)) B X)
  have e5 : sqF (at0 (opT (-1) m n (arms a b c L (n * 3)) (lfL m n (arms a b c L (n * 3)) B X))) n = sqF (opE (-1) m (arms a b c L (n * 3)) (at0 (lfL m n (arms a b c L (n * 3)) B X))) n := sq_tab _ _
  have h6 : (m * m + 144) * sqF (at0 (lfL m n (arms a b c L (n * 3)) B X)) n ≤ 1744 * sqF (at0 (lfL m n (arms a b c L (n * 3)) B X)) n := Int.mul_le_mul_of_nonneg_right (by omega) (sqF_nn _ _)
  refine ⟨fun s hs => bd_of_sq (by decide) h1 hs, fun s hs => bd_of_sq (by decide) (by omega) hs, fun s hs => bd_of_sq (by decide) (by omega) hs, fun s hs => bd_of_sq (by decide) (by omega) hs⟩
theorem opT_zero {k m : Int} {n : Nat} {A : List Arm} : opT k m n A (List.replicate n zs) = List.replicate n zs := by
  refine tab_ext (opT_len _ _ _ _ _) (List.length_replicate ..) (fun s hs => ?_)
  unfold opT
  rw [at0_tab _ hs, at0_repl]
  have e : accF (at0 (List.replicate n zs)) zs (row A s) = zs := by
    have hf : at0 (List.replicate n zs) = fun t => linS 0 0 (at0 (List.replicate n zs) t) (at0 (List.replicate n zs) t) := by
      funext t; rw [at0_repl, zs_lin]
    have := accF_lin 0 0 (at0 (List.replicate n zs)) (at0 (List.replicate n zs)) (row A s) zs zs
    rw [← hf, zs_lin] at this
    rw [this]
    refine ext_S ?_ ?_ ?_ ?_ <;> simp [linS, addS, smS, zs]
  unfold opE
  rw [e, at0_repl, zs_lin]
theorem inv_start {m : Int} {n : Nat} {A : List Arm} {B : List Sp} (hB : B.length = n) : Inv m n A B (List.replicate n zs) := by
  refine ⟨List.length_replicate .., ?_⟩
  have : lfL m n A B (List.replicate n zs) = B := by
    unfold lfL
    rw [opT_zero]
    refine tab_ext (lnL_len _ _ _ _ _) hB (fun s hs => ?_)
    unfold lnL
    rw [at0_tab _ hs, at0_repl]
    refine ext_S ?_ ?_ ?_ ?_ <;> simp [linS, addS, smS, zs]
  rw [this]
  exact Int.le_refl _
/-- the correction at X -/
def cor (ma : Int) (n : Nat) (A : List Arm) (B X : List Sp) : List Sp := coR (4 * ma) (16 * ma * ma + 72) n A (lfL (4 * ma) n A B X)
theorem cor_len (ma : Int) (n : Nat) (A : List Arm) (B X : List Sp) : (cor ma n A B X).length = n := coR_len _ _ _ _ _
/-- the measure of the solver -/
def lefM (ma : Int) (n : Nat) (A : List Arm) (B X : List Sp) : Nat := (sqF (at0 (lfL (4 * ma) n A B X)) n).toNat
theorem inv_step {a b c : Int} {n : Nat} (hz : Sz a b c) (hn : (n : Int) = a * b * c) {L : List Q} (hL : One4 L) {ma : Int} (h1 : 1 ≤ ma) {B X : List Sp} (h : Inv (4 * ma) n (arms a b c L (n * 3)) B X) (hc : ∃ s, s < n ∧ at0 (cor ma n (arms a b c L (n * 3)) B X) s ≠ zs) :
    Inv (4 * ma) n (arms a b c L (n * 3)) B (lnL n 1 1 X (cor ma n (arms a b c L (n * 3)) B X)) ∧ lefM ma n (arms a b c L (n * 3)) B (lnL n 1 1 X (cor ma n (arms a b c L (n * 3)) B X)) < lefM ma n (arms a b c L (n * 3)) B X := by
  have hD : 0 < 16 * ma * ma + 72 := by
    have : 0 ≤ 16 * ma * ma := Int.mul_nonneg (by omega) (by omega)
    omega
  have hs := step_down hz hn hL (m := 4 * ma) (D := 16 * ma * ma + 72) hD (R := lfL (4 * ma) n (arms a b c L (n * 3)) B X) (lfL_len _ _ _ _ _)
  rw [show coR (4 * ma) (16 * ma * ma + 72) n (arms a b c L (n * 3)) (lfL (4 * ma) n (arms a b c L (n * 3)) B X) = cor ma n (arms a b c L (n * 3)) B X from rfl, ← lf_step h.l (cor_len _ _ _ _ _)] at hs
  have e : 2 * (16 * ma * ma + 72) - 4 * ma * (4 * ma) - 144 = 16 * ma * ma := by grind
  rw [e] at hs
  obtain ⟨s, h2, h3⟩ := hc
  have hp : 0 < sqF (at0 (cor ma n (arms a b c L (n * 3)) B X)) n := by
    have := sq_at (f := at0 (cor ma n (arms a b c L (n * 3)) B X)) h2
    have h4 : ¬ dot4 (at0 (cor ma n (arms a b c L (n * 3)) B X) s) (at0 (cor ma n (arms a b c L (n * 3)) B X) s) ≤ 0 := fun h => h3 (dot4_zero h)
    omega
  have hq : 0 < 16 * ma * ma * sqF (at0 (cor ma n (arms a b c L (n * 3)) B X)) n := Int.mul_pos (by have := Int.mul_pos (show 0 < 16 * ma by omega) (show 0 < ma by omega); exact this) hp
  have hn0 := sqF_nn (at0 (lfL (4 * ma) n (arms a b c L (n * 3)) B (lnL n 1 1 X (cor ma n (arms a b c L (n * 3)) B X)))) n
  have hk := h.s
  exact ⟨⟨lnL_len _ _ _ _ _, by omega⟩, by unfold lefM; omega⟩
/-! ### the end -/
/-- rounded -/
def rdS (p : Sp) : Sp := ⟨(p.a + 32768) / 65536, (p.b + 32768) / 65536, (p.c + 32768) / 65536, (p.d + 32768) / 65536⟩
def rdL (n : Nat) (X : List Sp) : List Sp := tab n (fun s => rdS (at0 X s))
theorem rdL_len (n : Nat) (X : List Sp) : (rdL n X).length = n := tab_len _ _
theorem rd_bd {p : Sp} (h : Bd 274877906944 p) : Bd 4194305 (rdS p) := by
  obtain ⟨⟨a1, a2⟩, ⟨b1, b2⟩, ⟨c1, c2⟩, d1, d2⟩ := h
  unfold rdS Bd
  dsimp only
  refine ⟨⟨?_, ?_⟩, ⟨?_, ?_⟩, ⟨?_, ?_⟩, ?_, ?_⟩ <;> omega
theorem rd_rest (p : Sp) : Bd 32768 (linS 65536 (-1) (rdS p) p) := by
  unfold rdS Bd linS addS smS
  dsimp only
  refine ⟨⟨?_, ?_⟩, ⟨?_, ?_⟩, ⟨?_, ?_⟩, ?_, ?_⟩ <;> omega
theorem two_diff (p q : Sp) : dot4 (linS 1 (-1) p q) (linS 1 (-1) p q) ≤ 2 * dot4 p p + 2 * dot4 q q := by
  refine two_sq (p := p) (q := q) ?_
  refine ext_S ?_ ?_ ?_ ?_ <;> simp only [linS, addS, smS] <;> omega
/-- where no correction is left, the rounded solution is near -/
theorem end_near {a b c : Int} {n : Nat} (hz : Sz a b c) (hn : (n : Int) = a * b * c) {L : List Q} (hL : One4 L) {ma : Int} (hma : ma = 1 ∨ ma = 2 ∨ ma = 3 ∨ ma = 4 ∨ ma = 5 ∨ ma = 6 ∨ ma = 7 ∨ ma = 8 ∨ ma = 9 ∨ ma = 10) {N X : List Sp} (hN : N.length = n) (hX : X.length = n)
    (hc : ∀ s, s < n → at0 (cor ma n (arms a b c L (n * 3)) (tab n (fun s => smS 65536 (at0 N s))) X) s = zs) :
    sqF (at0 (lfL (4 * ma) n (arms a b c L (n * 3)) N (rdL n X))) n ≤ (4 * ma + 16) * (4 * ma + 16) * 4 * n := by
  generalize hA : arms a b c L (n * 3) = A at *
  generalize hBB : tab n (fun s => smS 65536 (at0 N s)) = B at *
  have hB : B.length = n := by rw [← hBB, tab_len]
  have hD : 0 < 16 * ma * ma + 72 := by
    have : 0 ≤ 16 * ma * ma := Int.mul_nonneg (by omega) (by omega)
    omega
  -- what is left
  have hy : ∀ s, s < n → Bd (16 * ma * ma + 72) (at0 (opT (-1) (4 * ma) n A (lfL (4 * ma) n A B X)) s) := fun s hs => by
    have := hc s hs
    unfold cor coR quL at this
    rw [at0_tab _ hs] at this
    have h1 := congrArg Sp.a this
    have h2 := congrArg Sp.b this
    have h3 := congrArg Sp.c this
    have h4 := congrArg Sp.d this
    exact ⟨tdiv_zero hD h1, tdiv_zero hD h2, tdiv_zero hD h3, tdiv_zero hD h4⟩
  have h1 := sq_of_bd n hy
  have e1 : sqF (at0 (opT (-1) (4 * ma) n A (lfL (4 * ma) n A B X))) n = sqF (opE (-1) (4 * ma) A (at0 (lfL (4 * ma) n A B X))) n := sq_tab _ _
  have h2 := op_down hz hn L (-1) (4 * ma) (by decide) (lfL (4 * ma) n A B X)
  rw [hA] at h2
  -- what the rounding brings
  have hr : ∀ s, s < n → Bd 32768 (at0 (lnL n 65536 (-1) (rdL n X) X) s) := fun s hs => by
    unfold lnL rdL
    rw [at0_tab _ hs, at0_tab _ hs]
    exact rd_rest _
  have h3 := sq_of_bd n hr
  have h4 := op_up hz hn hL 1 (4 * ma) (by decide) (lnL n 65536 (-1) (rdL n X) X)
  rw [hA] at h4
  have h5 : sqF (fun s => smS 65536 (at0 (lfL (4 * ma) n A N (rdL n X)) s)) n ≤ 2 * sqF (at0 (lfL (4 * ma) n A B X)) n + 2 * sqF (opE 1 (4 * ma) A (at0 (lnL n 65536 (-1) (rdL n X) X))) n := by
    rw [sumN_sq, sumN_sq, sumN_sq, ← sumN_lin]
    refine sumN_le n (fun s hs => ?_)
    have e : smS 65536 (at0 (lfL (4 * ma) n A N (rdL n X)) s) = linS 1 (-1) (at0 (lfL (4 * ma) n A B X) s) (opE 1 (4 * ma) A (at0 (lnL n 65536 (-1) (rdL n X) X)) s) := by
      rw [lnL_at 65536 (-1) (rdL_len n X) hX, opE_lin, lfL_at _ hN, lfL_at _ hB, ← hBB]
      dsimp only
      rw [at0_tab _ hs]
      unfold opT
      rw [at0_tab _ hs, at0_tab _ hs]
      refine ext_S ?_ ?_ ?_ ?_ <;> simp only [linS, addS, smS] <;> omega
    rw [e]
    exact two_diff _ _
  have e5 : sqF (fun s => smS 65536 (at0 (lfL (4 * ma) n A N (rdL n X)) s)) n = 4294967296 * sqF (at0 (lfL (4 * ma) n A N (rdL n X))) n := by
    rw [sumN_sq, sumN_sq, ← sumN_mulr]
    refine sumN_congr n (fun s _ => ?_)
    unfold dot4 smS; grind
  rw [e5] at h5
  rw [e1] at h1
  generalize sqF (at0 (lfL (4 * ma) n A N (rdL n X))) n = r at *
  generalize sqF (at0 (lfL (4 * ma) n A B X)) n = l at *
  generalize sqF (opE 1 (4 * ma) A (at0 (lnL n 65536 (-1) (rdL n X) X))) n = u at *
  generalize sqF (opE (-1) (4 * ma) A (at0 (lfL (4 * ma) n A B X))) n = y at *
  generalize sqF (at0 (lnL n 65536 (-1) (rdL n X) X)) n = v at *
  rcases hma with e | e | e | e | e | e | e | e | e | e <;> subst e <;> omega
end Fm
