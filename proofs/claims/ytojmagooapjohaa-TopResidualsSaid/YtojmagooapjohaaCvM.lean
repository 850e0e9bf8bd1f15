/- The operator goes with a transformation by small units (mathematics).
Conditions: none. -/
import Derived.Test.YtojmagooapjohaaFsM
import Derived.Test.YtojmagooapjohaaFermD
import Derived.Test.YtojmagooapjohaaHkM
namespace Go.Proofs.Ytojmagooapjohaa
set_option linter.unusedVariables false
set_option linter.unusedSimpArgs false
set_option maxRecDepth 1000000
open Go.RowKit
open Um Tm Fm

theorem two_mul : ∀ i ∈ List.range 24, ∀ j ∈ List.range 24, smS 2 (tw (low (mul (small (i : Nat)) (small (j : Nat))))) = mulS (tw (small (i : Nat))) (tw (small (j : Nat))) := by decide +kernel
theorem two_bar : ∀ i ∈ List.range 24, ∀ j ∈ List.range 24, mulS (tw (low (mul (small (i : Nat)) (bar (small (j : Nat)))))) (tw (small (j : Nat))) = smS 2 (tw (small (i : Nat))) := by decide +kernel
theorem two_sq : ∀ i ∈ List.range 24, dot4 (tw (small (i : Nat))) (tw (small (i : Nat))) = 4 := by decide +kernel
theorem tw_sq {x : Q} (hx : Sm2 x) : dot4 (tw x) (tw x) = 4 := by
  obtain ⟨k, hk, rfl⟩ := sm2_is hx
  exact two_sq k (List.mem_range.2 hk)
theorem tw_tri {x y z : Q} (hx : Sm2 x) (hy : Sm2 y) (hz : Sm2 z) : mulS (tw (low (mul (mul x y) (bar z)))) (tw z) = mulS (tw x) (tw y) := by
  have hp : 0 < (mul x y).n := Int.mul_pos hx.1.u.pos hy.1.u.pos
  rw [← low_mul_left _ _ hp]
  obtain ⟨v, hv, ev⟩ := sm2_is (hx.mul hy)
  obtain ⟨i, hi, rfl⟩ := sm2_is hx
  obtain ⟨j, hj, rfl⟩ := sm2_is hy
  obtain ⟨k, hk, rfl⟩ := sm2_is hz
  rw [← two_mul i (List.mem_range.2 hi) j (List.mem_range.2 hj), ev]
  exact two_bar v (List.mem_range.2 hv) k (List.mem_range.2 hk)
theorem mulS_assoc (p q r : Sp) : mulS (mulS p q) r = mulS p (mulS q r) := by
  refine ext_S ?_ ?_ ?_ ?_ <;> simp only [mulS] <;> grind
theorem mulS_add (p q r : Sp) : mulS p (addS q r) = addS (mulS p q) (mulS p r) := by
  refine ext_S ?_ ?_ ?_ ?_ <;> simp only [mulS, addS] <;> grind
theorem mulS_smr (k : Int) (p q : Sp) : mulS p (smS k q) = smS k (mulS p q) := by
  refine ext_S ?_ ?_ ?_ ?_ <;> simp only [mulS, smS] <;> grind
theorem con_l (p q : Sp) : mulS (conS p) (mulS p q) = smS (dot4 p p) q := by
  refine ext_S ?_ ?_ ?_ ?_ <;> simp only [mulS, conS, smS, dot4] <;> grind
theorem con_r (p q : Sp) : mulS (mulS p q) (conS q) = smS (dot4 q q) p := by
  refine ext_S ?_ ?_ ?_ ?_ <;> simp only [mulS, conS, smS, dot4] <;> grind
theorem four_inj {p q : Sp} (h : smS 4 p = smS 4 q) : p = q := by
  have h1 := congrArg Sp.a h
  have h2 := congrArg Sp.b h
  have h3 := congrArg Sp.c h
  have h4 := congrArg Sp.d h
  simp only [smS] at h1 h2 h3 h4
  exact ext_S (by omega) (by omega) (by omega) (by omega)
theorem tri_con {w x y z : Sp} (h : mulS w z = mulS x y) (hw : dot4 w w = 4) (hy : dot4 y y = 4) : mulS (conS w) x = mulS z (conS y) := by
  refine four_inj ?_
  have h1 : mulS (conS w) (mulS x y) = smS 4 z := by rw [← h, con_l, hw]
  have h2 : mulS (mulS (conS w) (mulS x y)) (conS y) = smS 4 (mulS (conS w) x) := by rw [← mulS_assoc, con_r, hy]
  rw [← h2, h1, mulS_sm]
theorem smU_sm2 {U : List Q} (h : AllU U) : AllS U := h
theorem tf_ln {a b c : Int} {L G : List Q} {k : Nat} (hk : k < L.length) : ln (tfL a b c L G) k = tfK a b c L G k := by
  unfold ln
  rw [List.getD_eq_getElem?_getD, tfL_get hk]; rfl
/-- a unit of the list, twice -/
def gq (G : List Q) (s : Nat) : Sp := tw (G.getD s zero)
theorem gq_lk {G : List Q} {s : Nat} (h : s < G.length) : gq G s = tw (Tm.lk G (s : Int)) := by
  unfold gq Tm.lk
  rw [Int.toNat_natCast, List.getD_eq_getElem?_getD, List.getD_eq_getElem?_getD, List.getElem?_eq_getElem h]
  rfl
theorem arm_one {a b c : Int} {n : Nat} {L G : List Q} (hz : Sz a b c) (hn : (n : Int) = a * b * c) (hl : L.length = n * 3) (hg : G.length = n) (hL : AllS L) (hG : AllS G) {k : Nat} (hk : k < n * 3) :
    mulS (fac a b (tfL a b c L G) k) (gq G (nxl a b c k)) = mulS (gq G (k / 3)) (fac a b L k) ∧ mulS (flipS (fac a b (tfL a b c L G) k)) (gq G (k / 3)) = mulS (gq G (nxl a b c k)) (flipS (fac a b L k)) := by
  obtain ⟨e1, e2⟩ := nxl_rng hz k
  have x0 : Sm2 (Tm.lk G ((k / 3 : Nat) : Int)) := hG.lk (by omega) (by omega)
  have y0 : Sm2 (Tm.lk L (k : Int)) := hL.lk (by omega) (by omega)
  have z0 : Sm2 (Tm.lk G ((nxl a b c k : Nat) : Int)) := hG.lk (by omega) (by omega)
  have hl' : ln L k = Tm.lk L (k : Int) := by unfold ln Tm.lk; rw [Int.toNat_natCast]
  have ht : tfK a b c L G k = low (mul (mul (Tm.lk G ((k / 3 : Nat) : Int)) (Tm.lk L (k : Int))) (bar (Tm.lk G ((nxl a b c k : Nat) : Int)))) := by
    unfold tfK ahd; rw [e1]
  have E := tw_tri x0 y0 z0
  have hw := tw_sq (Sm2.tri x0 y0 z0)
  have C := tri_con E hw (tw_sq y0)
  unfold fac
  rw [tf_ln (by omega), ht, hl', gq_lk (by omega), gq_lk (by omega), mulS_sm, mulS_smr, E]
  refine ⟨rfl, ?_⟩
  rw [flip_sm, flip_sm, mulS_sm, mulS_smr, C]
theorem accF_snoc (f : Nat → Sp) (t : Sp) (A : List Arm) (x : Arm) : accF f t (A ++ [x]) = addS (accF f t A) (mulS x.q (f x.frm)) := by
  unfold accF; rw [List.foldl_append]; rfl
theorem acc_tf {a b c : Int} {n : Nat} {L G : List Q} (hz : Sz a b c) (hn : (n : Int) = a * b * c) (hl : L.length = n * 3) (hg : G.length = n) (hL : AllS L) (hG : AllS G) (f : Nat → Sp) (s : Nat) : ∀ k, k ≤ n * 3 →
    accF (fun t => mulS (gq G t) (f t)) zs (row (arms a b c (tfL a b c L G) k) s) = mulS (gq G s) (accF f zs (row (arms a b c L k) s))
  | 0, _ => by
    show zs = mulS (gq G s) zs
    refine ext_S ?_ ?_ ?_ ?_ <;> simp only [mulS, zs] <;> grind
  | k + 1, hk => by
    have ih := acc_tf hz hn hl hg hL hG f s k (by omega)
    obtain ⟨E1, E2⟩ := arm_one hz hn hl hg hL hG (k := k) (by omega)
    have e : ∀ L : List Q, arms a b c L (k + 1) = arms a b c L k ++ [arm1 a b c L k] ++ [arm2 a b c L k] := fun _ => rfl
    have step : ∀ (A B : List Arm) (x y : Arm), accF (fun t => mulS (gq G t) (f t)) zs (row A s) = mulS (gq G s) (accF f zs (row B s)) → x.to = y.to → x.frm = y.frm → mulS x.q (gq G x.frm) = mulS (gq G y.to) y.q → accF (fun t => mulS (gq G t) (f t)) zs (row (A ++ [x]) s) = mulS (gq G s) (accF f zs (row (B ++ [y]) s)) := fun A B x y h1 h2 h3 h4 => by
      rw [row_snoc, row_snoc, h2]
      by_cases h5 : y.to = s
      · rw [if_pos h5, if_pos h5, accF_snoc, accF_snoc, h1, mulS_add, ← mulS_assoc, h4, h3, h5, mulS_assoc]
      · rw [if_neg h5, if_neg h5, h1]
    rw [e, e]
    exact step _ _ _ _ (step _ _ _ _ ih rfl rfl E1) rfl rfl E2
theorem op_tf {a b c : Int} {n : Nat} {L G : List Q} (hz : Sz a b c) (hn : (n : Int) = a * b * c) (hl : L.length = n * 3) (hg : G.length = n) (hL : AllS L) (hG : AllS G) (k m : Int) (f : Nat → Sp) (s : Nat) :
    opE k m (arms a b c (tfL a b c L G) (n * 3)) (fun t => mulS (gq G t) (f t)) s = mulS (gq G s) (opE k m (arms a b c L (n * 3)) f s) := by
  unfold opE
  rw [acc_tf hz hn hl hg hL hG f s _ (Nat.le_refl _)]
  refine ext_S ?_ ?_ ?_ ?_ <;> simp only [linS, mulS, addS, smS] <;> grind
theorem tuV_gq (G : List Q) (M : List Sp) (s : Nat) : tuV G M s = (mulS (gq G s) (at0 M s)).w := by
  unfold tuV gq; rw [mulS_w_l]
/-- the operator of the transformed field takes the turned vector to the turned one -/
theorem op_cov {a b c : Int} {n : Nat} {L G : List Q} (hz : Sz a b c) (hn : (n : Int) = a * b * c) (hl : L.length = n * 3) (hg : G.length = n) (hL : AllS L) (hG : AllS G) (k ma : Int) {M : List Sp} (hM : M.length = n) :
    opL k ma n (arms a b c (tfL a b c L G) (n * 3)) (tuL G M) = tuL G (opL k ma n (arms a b c L (n * 3)) M) := by
  rw [opL_E]
  have hlen : (opL k ma n (arms a b c L (n * 3)) M).length = n := by rw [opL_E, tab_len]
  unfold tuL
  rw [hlen]
  refine tab_congr fun s hs => ?_
  have h1 : ∀ t, t < n → (at0 (tab M.length (tuV G M)) t).w = (mulS (gq G t) (at0 M t)).w := fun t ht => by
    rw [at0_tab _ (by omega), tuV_gq, w_w]
  rw [opE_w (Fm.arms_frm hz hn _ _ (Nat.le_refl _)) h1 hs, op_tf hz hn hl hg hL hG, tuV_gq, opL_E, at0_tab _ hs, mulS_w_r]
end Go.Proofs.Ytojmagooapjohaa
