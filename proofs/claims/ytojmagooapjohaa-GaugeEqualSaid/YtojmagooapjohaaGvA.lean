/- Two gauge transformations, one behind the other: mathematics; and the answers of Compose.
Conditions: those written at each theorem. -/
import Derived.Test.YtojmagooapjohaaGsC
import Derived.Test.YtojmagooapjohaaGauG
import Derived.Test.YtojmagooapjohaaHwC
namespace Go.Proofs.Ytojmagooapjohaa
set_option linter.unusedVariables false
set_option linter.unusedSimpArgs false
set_option maxRecDepth 1000000
open Go.RowKit
open Um Tm

/-- the units of two transformations' product -/
def coL (G H : List Q) : List Q := (List.range G.length).map fun (k : Nat) => low (mul (lk G (k : Int)) (lk H (k : Int)))
theorem coL_len (G H : List Q) : (coL G H).length = G.length := by simp [coL]
theorem coL_get {G H : List Q} {k : Nat} (hk : k < G.length) : (coL G H)[k]? = some (low (mul (lk G (k : Int)) (lk H (k : Int)))) := by
  simp [coL, hk]
theorem coL_lk {G H : List Q} {i : Int} (h0 : 0 ≤ i) (h1 : i < (G.length : Int)) : lk (coL G H) i = low (mul (lk G i) (lk H i)) := by
  have h2 := lk_get (L := coL G H) h0 (by rw [coL_len]; exact h1)
  rw [coL_get (by omega), show ((i.toNat : Nat) : Int) = i by omega] at h2
  exact (Option.some.inj h2).symm
theorem co_mul {g h x h' g' : Q} (ug : U g) (uh : U h) (ux : U x) (uh' : U h') (ug' : U g') : low (mul (mul g (low (mul (mul h x) (bar h')))) (bar g')) = low (mul (mul (low (mul g h)) x) (bar (low (mul g' h')))) := by
  have h1 : 0 < (mul (mul h x) (bar h')).n := (mul_len _ _ (mul_len _ _ uh ux) (bar_len _ uh')).pos
  have hA : 0 < (mul g h).n := (mul_len _ _ ug uh).pos
  have hM : 0 < (mul g' h').n := (mul_len _ _ ug' uh').pos
  have hB : 0 < (bar (mul g' h')).n := (bar_len _ (mul_len _ _ ug' uh')).pos
  have e1 : bar (low (mul g' h')) = low (bar (mul g' h')) := (Tm.low_bar _ hM).symm
  rw [low_mid _ _ _ h1, e1, low_mul_right _ _ hB, mul_assoc (low (mul g h)), low_mul_left _ _ hA, bar_mul']
  congr 1
  simp only [mul_assoc]
theorem tf_co {a b c : Int} {L G H : List Q} (hF : Fl a b c L) (hG : Gg L G) (hH : Gg L H) : tfL a b c (tfL a b c L H) G = tfL a b c L (coL G H) := by
  have hn := hF.n
  have hgn := hG.n
  have hhn := hH.n
  apply List.ext_getElem?
  intro i
  by_cases hi : i < L.length
  · rw [tfL_get (by rw [tfL_len]; exact hi), tfL_get hi]
    congr 1
    obtain ⟨t0, t1⟩ := ahd_rng hF.z i
    have e3 : lk (tfL a b c L H) (i : Int) = tfK a b c L H i := by
      have := lk_at (L := tfL a b c L H) (i := i) (by rw [tfL_len]; exact hi)
      rw [tfL_get hi] at this
      exact (Option.some.inj this).symm
    rw [tfK, tfK, e3, coL_lk (i := ((i / 3 : Nat) : Int)) (by omega) (by omega), coL_lk (i := ahd a b c i) t0 (by omega), tfK]
    exact co_mul (hG.v _ _ (lk_at (L := G) (i := i / 3) (by omega))).1.u (hH.v _ _ (lk_at (L := H) (i := i / 3) (by omega))).1.u (hF.v _ _ (lk_at hi)).1.u (hH.v _ _ (lk_get (L := H) t0 (by omega))).1.u (hG.v _ _ (lk_get (L := G) t0 (by omega))).1.u
  · rw [List.getElem?_eq_none (by rw [tfL_len, tfL_len]; omega), List.getElem?_eq_none (by rw [tfL_len]; omega)]
theorem co_V {L G H : List Q} (hG : Gg L G) (hH : Gg L H) {k : Nat} (hk : k < G.length) : V (low (mul (lk G (k : Int)) (lk H (k : Int)))) := by
  have hgn := hG.n
  have hhn := hH.n
  have h2 := mul_bnd5 (hG.v _ _ (lk_at hk)) (hH.v _ _ (lk_at (L := H) (i := k) (by omega)))
  exact V.of_low h2.1 (by have := low_le _ h2.1.pos; omega)
theorem co_Gg {L G H : List Q} (hG : Gg L G) (hH : Gg L H) (hl : Lim (coL G H)) : Gg L (coL G H) := ⟨by rw [coL_len]; exact hG.n, fun i x hx => by
  have hi : i < G.length := by have := (List.getElem?_eq_some_iff.1 hx).1; rwa [coL_len] at this
  have h5 := hl i x hx
  rw [coL_get hi] at hx
  have := Option.some.inj hx
  subst this
  exact ⟨co_V hG hH hi, h5⟩⟩
end Go.Proofs.Ytojmagooapjohaa

/- The fixed field: its links in the tree are 1, and it is its own fixed field; mathematics.
Conditions: those written at each theorem. -/
namespace Go.Proofs.Ytojmagooapjohaa
set_option linter.unusedVariables false
set_option linter.unusedSimpArgs false
set_option maxRecDepth 1000000
open Go.RowKit
open Um Tm

/-- no later link of the list leads to where this one begins or ends -/
def gdB (a b c : Int) : List Int → Bool
  | [] => true
  | k :: l => (k :: l).all (fun m => decide (ahd a b c m.toNat ≠ ((k.toNat / 3 : Nat) : Int))) && l.all (fun m => decide (ahd a b c m.toNat ≠ ahd a b c k.toNat)) && gdB a b c l
def fxB (a b c : Int) (N : Nat) : List Int → Bool := fun l => decide (l.length + 1 = N) && gdB a b c l
def fxAll : Bool := (List.range 4).all fun a => (List.range 4).all fun b => (List.range 4).all fun c => decide (16 < (a + 1) * (b + 1) * (c + 1)) || fxB (a + 1) (b + 1) (c + 1) ((a + 1) * (b + 1) * (c + 1)) (trAt (a + 1) (b + 1) (c + 1) (3 * ((a + 1) * (b + 1) * (c + 1)))).2
theorem fxAll_true : fxAll = true := by decide +kernel
theorem tr_gd {a b c : Int} {N : Nat} (hz : Sz a b c) (hN : (N : Int) = a * b * c) : (trL a b c N).length + 1 = N ∧ gdB a b c (trL a b c N) = true := by
  obtain ⟨a1, a4, b1, b4, c1, c4, hp⟩ := hz
  obtain ⟨A, rfl⟩ : ∃ A : Nat, a = ((A : Int) + 1) := ⟨(a - 1).toNat, by omega⟩
  obtain ⟨B, rfl⟩ : ∃ B : Nat, b = ((B : Int) + 1) := ⟨(b - 1).toNat, by omega⟩
  obtain ⟨C, rfl⟩ : ∃ C : Nat, c = ((C : Int) + 1) := ⟨(c - 1).toNat, by omega⟩
  have h := fxAll_true
  simp only [fxAll, List.all_eq_true, List.mem_range] at h
  have h2 := h A (by omega) B (by omega) C (by omega)
  have e : (((A + 1) * (B + 1) * (C + 1) : Nat) : Int) = ((A : Int) + 1) * ((B : Int) + 1) * ((C : Int) + 1) := by simp
  obtain rfl : N = (A + 1) * (B + 1) * (C + 1) := by omega
  have h3 : decide (16 < (A + 1) * (B + 1) * (C + 1)) = false := by
    rw [decide_eq_false_iff_not]
    omega
  rw [h3, Bool.false_or, fxB, Bool.and_eq_true, decide_eq_true_eq] at h2
  exact h2
theorem lk_setG {L : List Q} {i j : Int} (h0 : 0 ≤ i) (h1 : i < (L.length : Int)) (j0 : 0 ≤ j) (x : Q) : lk (L.set i.toNat x) j = if j = i then x else lk L j := by
  unfold lk
  rw [List.getD_eq_getElem?_getD, List.getD_eq_getElem?_getD, List.getElem?_set]
  by_cases h : j = i
  · subst h
    rw [if_pos rfl, if_pos rfl, if_pos (by omega)]
    rfl
  · rw [if_neg (by omega), if_neg h]
/-- what a list of links leaves as it was -/
theorem fold_out {a b c : Int} {L : List Q} (hz : Sz a b c) : ∀ (l : List Int) (G : List Q), (G.length : Int) = a * b * c → ∀ t : Int, 0 ≤ t → (∀ m ∈ l, ahd a b c m.toNat ≠ t) → lk (l.foldl (brF a b c L) G) t = lk G t := by
  intro l
  induction l with
  | nil => intro G _ t _ _; rfl
  | cons k l ih =>
    intro G hG t ht hl
    rw [List.foldl_cons, ih _ (by rw [brF_len]; exact hG) t ht (fun m hm => hl m (List.mem_cons_of_mem _ hm))]
    obtain ⟨t0, t1⟩ := ahd_rng hz k.toNat
    unfold brF
    rw [lk_setG t0 (by omega) ht, if_neg (fun e => hl k List.mem_cons_self e.symm)]
theorem fold_tree {a b c : Int} {L : List Q} (hz : Sz a b c) : ∀ (l : List Int) (G : List Q), (G.length : Int) = a * b * c → gdB a b c l = true → ∀ k ∈ l, lk (l.foldl (brF a b c L) G) (ahd a b c k.toNat) = low (mul (lk (l.foldl (brF a b c L) G) ((k.toNat / 3 : Nat) : Int)) (lk L k)) := by
  intro l
  induction l with
  | nil => intro G _ _ k hk; simp at hk
  | cons m l ih =>
    intro G hG hg k hk
    simp only [gdB, Bool.and_eq_true, List.all_eq_true, decide_eq_true_eq] at hg
    obtain ⟨⟨h1, h2⟩, h3⟩ := hg
    obtain ⟨t0, t1⟩ := ahd_rng hz m.toNat
    rw [List.foldl_cons]
    have hG1 : ((brF a b c L G m).length : Int) = a * b * c := by rw [brF_len]; exact hG
    rcases List.mem_cons.1 hk with rfl | hk
    · rw [fold_out hz l _ hG1 _ t0 h2, fold_out hz l _ hG1 _ (by omega) (fun m hm => h1 m (List.mem_cons_of_mem _ hm))]
      have hne := h1 k List.mem_cons_self
      unfold brF
      rw [lk_setG t0 (by omega) t0, if_pos rfl, lk_setG t0 (by omega) (by omega), if_neg (fun e => hne e.symm)]
    · exact ih _ hG1 h3 k hk
/-- the links of the fixed field in the tree are 1 -/
theorem fx_one {a b c : Int} {N : Nat} {L : List Q} (hF : Fl a b c L) (hS : AllS L) (hN : (N : Int) = a * b * c) : ∀ k ∈ trL a b c N, lk (fxL a b c N L) k = one := fun k hk => by
  have hn := hF.n
  obtain ⟨k0, k1⟩ := tr_mem hF.z hN (3 * N) (Nat.le_refl _) k hk
  have hB : AllS (brL a b c N L) := brL_all hF hS hN
  have hbl := brL_len a b c N L
  have h1 : lk (brL a b c N L) (ahd a b c k.toNat) = low (mul (lk (brL a b c N L) ((k.toNat / 3 : Nat) : Int)) (lk L k)) := fold_tree hF.z (trL a b c N) (List.replicate N one) (by simp; exact hN) (tr_gd hF.z hN).2 k hk
  have ux := (hB.lk (k := ((k.toNat / 3 : Nat) : Int)) (by omega) (by omega)).1.u
  have uy := (hS.lk (k := k) k0 (by omega)).1.u
  have uM := mul_len _ _ ux uy
  have h2 := lk_get (L := fxL a b c N L) k0 (by rw [fxL_len]; omega)
  rw [fxL, tfL_get (by omega)] at h2
  have h3 := (Option.some.inj h2).symm
  rw [show tfL a b c L (brL a b c N L) = fxL a b c N L from rfl] at h3
  rw [h3, tfK, h1, show ((k.toNat : Nat) : Int) = k by omega]
  rw [← Tm.low_bar _ uM.pos, low_mul_right _ _ (bar_len _ uM).pos, low_mul_bar _ uM]
theorem set_rep (N t : Nat) (x : Q) : (List.replicate N x).set t x = List.replicate N x := by
  apply List.ext_getElem?
  intro i
  rw [List.getElem?_set]
  split
  · rename_i h
    subst h
    split
    · rename_i h
      rw [List.getElem?_replicate, if_pos (by simpa using h)]
    · rename_i h
      rw [List.getElem?_replicate, if_neg (by simpa using h)]
  · rfl
theorem lk_rep {N : Nat} {x : Q} {i : Int} (h0 : 0 ≤ i) (h1 : i < (N : Int)) : lk (List.replicate N x) i = x := by
  have := lk_get (L := List.replicate N x) h0 (by simpa using h1)
  rw [List.getElem?_replicate, if_pos (by omega)] at this
  exact (Option.some.inj this).symm
theorem fold_ones {a b c : Int} {L : List Q} {N : Nat} : ∀ l : List Int, (∀ k ∈ l, lk L k = one ∧ 0 ≤ k ∧ k < 3 * (N : Int)) → l.foldl (brF a b c L) (List.replicate N one) = List.replicate N one := by
  intro l
  induction l with
  | nil => intro _; rfl
  | cons k l ih =>
    intro hl
    obtain ⟨h1, h2, h3⟩ := hl k List.mem_cons_self
    rw [List.foldl_cons, show brF a b c L (List.replicate N one) k = List.replicate N one from ?_]
    · exact ih fun m hm => hl m (List.mem_cons_of_mem _ hm)
    · unfold brF
      rw [h1, lk_rep (by omega) (by omega), show low (mul one one) = one by decide, set_rep]
theorem br_ones {a b c : Int} {N : Nat} {L : List Q} (hF : Fl a b c L) (hS : AllS L) (hN : (N : Int) = a * b * c) : brL a b c N (fxL a b c N L) = List.replicate N one :=
  fold_ones (trL a b c N) fun k hk => ⟨fx_one hF hS hN k hk, tr_mem hF.z hN (3 * N) (Nat.le_refl _) k hk⟩
theorem fx_Fl {a b c : Int} {N : Nat} {L : List Q} (hF : Fl a b c L) (hS : AllS L) (hN : (N : Int) = a * b * c) : fldR a b c (fxL a b c N L) 0 :=
  fldR_small hF.z (by rw [fxL_len]; exact hF.n) (fxL_all hF hS hN)
theorem fx_fx {a b c : Int} {N : Nat} {L : List Q} (hF : Fl a b c L) (hS : AllS L) (hN : (N : Int) = a * b * c) : fxL a b c N (fxL a b c N L) = fxL a b c N L := by
  have hn := hF.n
  have hl := fxL_len a b c N L
  have hA := fxL_all hF hS hN
  have hb := br_ones hF hS hN
  generalize hM : fxL a b c N L = M at *
  unfold fxL
  rw [hb]
  apply List.ext_getElem?
  intro i
  by_cases hi : i < M.length
  · obtain ⟨t0, t1⟩ := ahd_rng hF.z i
    rw [tfL_get hi, lk_at hi, tfK, lk_rep (by omega) (by omega), lk_rep t0 (by omega), one_mul', Tm.bar_one, mul_one', (hA.lk (k := (i : Int)) (by omega) (by omega)).1.low]
  · rw [List.getElem?_eq_none (by rw [tfL_len]; omega), List.getElem?_eq_none (by omega)]
/-- the loops of the fixed field are those of the field -/
theorem lp_fx {a b c : Int} {N : Nat} {L : List Q} (hF : Fl a b c L) (hS : AllS L) (hN : (N : Int) = a * b * c) : lpL a b c N (fxL a b c N L) = lpL a b c N L := by
  unfold lpL
  rw [fx_fx hF hS hN, fxL_len]
end Go.Proofs.Ytojmagooapjohaa

/- A field that is transformed by small units: its branches, its fixed field, its loops. Mathematics.
Conditions: those written at each theorem. -/
namespace Go.Proofs.Ytojmagooapjohaa
set_option linter.unusedVariables false
set_option linter.unusedSimpArgs false
set_option maxRecDepth 1000000
open Um Tm

/-- each link of the list leads from a site that is reached to one that is not -/
def ordB (a b c : Int) (N : Nat) : List Int → List Int → Bool
  | R, [] => (List.range N).all fun s => R.contains (s : Int)
  | R, k :: l => R.contains ((k.toNat / 3 : Nat) : Int) && !(R.contains (ahd a b c k.toNat)) && ordB a b c N (ahd a b c k.toNat :: R) l
def orAll : Bool := (List.range 4).all fun a => (List.range 4).all fun b => (List.range 4).all fun c => decide (16 < (a + 1) * (b + 1) * (c + 1)) || ordB (a + 1) (b + 1) (c + 1) ((a + 1) * (b + 1) * (c + 1)) [0] (trAt (a + 1) (b + 1) (c + 1) (3 * ((a + 1) * (b + 1) * (c + 1)))).2
theorem orAll_true : orAll = true := by decide +kernel
theorem tr_ord {a b c : Int} {N : Nat} (hz : Sz a b c) (hN : (N : Int) = a * b * c) : ordB a b c N [0] (trL a b c N) = true := by
  obtain ⟨a1, a4, b1, b4, c1, c4, hp⟩ := hz
  obtain ⟨A, rfl⟩ : ∃ A : Nat, a = ((A : Int) + 1) := ⟨(a - 1).toNat, by omega⟩
  obtain ⟨B, rfl⟩ : ∃ B : Nat, b = ((B : Int) + 1) := ⟨(b - 1).toNat, by omega⟩
  obtain ⟨C, rfl⟩ : ∃ C : Nat, c = ((C : Int) + 1) := ⟨(c - 1).toNat, by omega⟩
  have h := orAll_true
  simp only [orAll, List.all_eq_true, List.mem_range] at h
  have h2 := h A (by omega) B (by omega) C (by omega)
  have e : (((A + 1) * (B + 1) * (C + 1) : Nat) : Int) = ((A : Int) + 1) * ((B : Int) + 1) * ((C : Int) + 1) := by simp
  obtain rfl : N = (A + 1) * (B + 1) * (C + 1) := by omega
  have h3 : decide (16 < (A + 1) * (B + 1) * (C + 1)) = false := by
    rw [decide_eq_false_iff_not]
    omega
  rw [h3, Bool.false_or] at h2
  exact h2
theorem ord_ind {a b c : Int} {N : Nat} (P : Int → Prop) : ∀ (l R : List Int), ordB a b c N R l = true → (∀ s ∈ R, P s) → (∀ k ∈ l, P ((k.toNat / 3 : Nat) : Int) → P (ahd a b c k.toNat)) → ∀ s : Nat, s < N → P (s : Int)
  | [], R, h, hR, _, s, hs => by
    simp only [ordB, List.all_eq_true, List.mem_range] at h
    exact hR _ (List.contains_iff_mem.1 (h s hs))
  | k :: l, R, h, hR, hk, s, hs => by
    simp only [ordB, Bool.and_eq_true] at h
    obtain ⟨⟨h1, _⟩, h3⟩ := h
    refine ord_ind P l _ h3 (fun t ht => ?_) (fun m hm => hk m (List.mem_cons_of_mem _ hm)) s hs
    rcases List.mem_cons.1 ht with rfl | ht
    · exact hk k List.mem_cons_self (hR _ (List.contains_iff_mem.1 h1))
    · exact hR t ht
theorem ord_out {a b c : Int} {N : Nat} {t : Int} : ∀ (l R : List Int), ordB a b c N R l = true → t ∈ R → ∀ m ∈ l, ahd a b c m.toNat ≠ t
  | [], _, _, _, m, hm => by simp at hm
  | k :: l, R, h, ht, m, hm => by
    simp only [ordB, Bool.and_eq_true, Bool.not_eq_true'] at h
    obtain ⟨⟨_, h2⟩, h3⟩ := h
    rcases List.mem_cons.1 hm with rfl | hm
    · intro e
      rw [e, List.contains_iff_mem.2 ht] at h2
      cases h2
    · exact ord_out l _ h3 (List.mem_cons_of_mem _ ht) m hm
theorem br_zero {a b c : Int} {N : Nat} {L : List Q} (hz : Sz a b c) (hN : (N : Int) = a * b * c) : lk (brL a b c N L) 0 = one := by
  have h := tr_ord hz hN
  obtain ⟨-, -, p3, -⟩ := mul_rng hz.a1 hz.a4 hz.b1 hz.b4 hz.c1 hz.c4
  unfold brL brT
  rw [fold_out hz _ _ (by rw [List.length_replicate]; omega) 0 (by omega) (ord_out _ _ h (by simp))]
  exact lk_rep (by omega) (by omega)
theorem br_step {a b c : Int} {N : Nat} {L : List Q} (hz : Sz a b c) (hN : (N : Int) = a * b * c) : ∀ k ∈ trL a b c N, lk (brL a b c N L) (ahd a b c k.toNat) = low (mul (lk (brL a b c N L) ((k.toNat / 3 : Nat) : Int)) (lk L k)) :=
  fold_tree hz _ _ (by rw [List.length_replicate]; omega) (tr_gd hz hN).2
theorem or_alg {g0 br gx u gy : Q} (u0 : U g0) (ub : U br) (ux : U gx) (uu : U u) (uy : U gy) : low (mul (low (mul (mul g0 br) (bar gx))) (low (mul (mul gx u) (bar gy)))) = low (mul (mul g0 (low (mul br u))) (bar gy)) := by
  have h1 : 0 < (mul (mul g0 br) (bar gx)).n := (mul_len _ _ (mul_len _ _ u0 ub) (bar_len _ ux)).pos
  have h2 : 0 < (mul (mul gx u) (bar gy)).n := (mul_len _ _ (mul_len _ _ ux uu) (bar_len _ uy)).pos
  have h3 : 0 < (mul br u).n := (mul_len _ _ ub uu).pos
  rw [low_mul_left _ _ h1, low_mul_right _ _ h2, low_mid _ _ _ h3]
  have e : mul (mul (mul g0 br) (bar gx)) (mul (mul gx u) (bar gy)) = scale (gx.n * gx.n) (mul (mul g0 (mul br u)) (bar gy)) := by
    rw [mul_assoc (mul g0 br), mul_assoc gx u, ← mul_assoc (bar gx) gx, bar_mul gx ux, scale_mul, one_mul', mul_scale]
    congr 1
    simp only [mul_assoc]
  rw [e, low_scale _ _ (Int.mul_pos ux.pos ux.pos)]
/-- the branches of the transformed field -/
theorem br_tf {a b c : Int} {N : Nat} {L G : List Q} (hz : Sz a b c) (hN : (N : Int) = a * b * c) (hn : (L.length : Int) = 3 * (a * b * c)) (hg : G.length = N) (hL : AllS L) (hG : AllS G) : ∀ s : Nat, s < N → lk (brL a b c N (tfL a b c L G)) (s : Int) = low (mul (mul (lk G 0) (lk (brL a b c N L) (s : Int))) (bar (lk G (s : Int)))) := by
  obtain ⟨-, -, p3, -⟩ := mul_rng hz.a1 hz.a4 hz.b1 hz.b4 hz.c1 hz.c4
  have hbr : AllS (brL a b c N L) := AllS.br (by omega) hL _ (fun k hk => tr_mem hz hN _ (Nat.le_refl _) k hk)
  have hbl : (brL a b c N L).length = N := brL_len _ _ _ _ _
  refine ord_ind (fun s => lk (brL a b c N (tfL a b c L G)) s = low (mul (mul (lk G 0) (lk (brL a b c N L) s)) (bar (lk G s)))) _ _ (tr_ord hz hN) (fun s hs => ?_) (fun k hk ih => ?_)
  · rw [List.mem_singleton.1 hs, br_zero hz hN, br_zero hz hN, mul_one', low_mul_bar _ (hG.lk (by omega) (by omega)).1.u]
  · obtain ⟨k0, k1⟩ := tr_mem hz hN _ (Nat.le_refl _) k hk
    obtain ⟨t0, t1⟩ := ahd_rng hz k.toNat
    rw [br_step hz hN k hk, ih, br_step hz hN k hk]
    have e : lk (tfL a b c L G) k = low (mul (mul (lk G ((k.toNat / 3 : Nat) : Int)) (lk L k)) (bar (lk G (ahd a b c k.toNat)))) := by
      have h := tfL_get (a := a) (b := b) (c := c) (L := L) (G := G) (k := k.toNat) (by omega)
      have h2 := lk_get (L := tfL a b c L G) k0 (by rw [tfL_len]; omega)
      rw [h] at h2
      have h3 := (Option.some.inj h2).symm
      rw [h3, tfK, Int.toNat_of_nonneg k0]
    rw [e]
    exact or_alg (hG.lk (by omega) (by omega)).1.u (hbr.lk (by omega) (by omega)).1.u (hG.lk (by omega) (by omega)).1.u (hL.lk k0 (by omega)).1.u (hG.lk t0 (by omega)).1.u
theorem lk_ext {L M : List Q} (hl : L.length = M.length) (h : ∀ s : Nat, s < L.length → lk L (s : Int) = lk M (s : Int)) : L = M := by
  refine List.ext_getElem hl fun i h1 h2 => ?_
  have := h i h1
  unfold lk at this
  rw [Int.toNat_natCast, List.getD_eq_getElem?_getD, List.getD_eq_getElem?_getD, List.getElem?_eq_getElem h1, List.getElem?_eq_getElem h2] at this
  exact this
theorem AllS.gg {L G : List Q} (hG : AllS G) (hn : 3 * G.length = L.length) : Gg L G := ⟨hn, fun i x hx => ⟨(hG i x hx).1, by have := (hG i x hx).2; omega⟩⟩
theorem AllS.rep {x : Q} (hx : Sm2 x) (N : Nat) : AllS (List.replicate N x) := fun i y hy => by
  have := List.mem_of_getElem? hy
  rw [(List.mem_replicate.1 this).2]; exact hx
theorem AllS.co {G H : List Q} (hG : AllS G) (hH : AllS H) (hl : H.length = G.length) : AllS (coL G H) := fun i x hx => by
  have hi : i < G.length := by have := (List.getElem?_eq_some_iff.1 hx).1; rwa [coL_len] at this
  rw [coL_get hi] at hx
  rw [← Option.some.inj hx]
  exact (hG.lk (by omega) (by omega)).mul (hH.lk (by omega) (by omega))
theorem AllS.bars {G : List Q} (hG : AllS G) : AllS (G.map bar) := fun i x hx => by
  rw [List.getElem?_map] at hx
  cases h : G[i]? with
  | none => rw [h] at hx; cases hx
  | some y => rw [h] at hx; rw [← Option.some.inj hx]; exact (hG i y h).bar
theorem lk_bars {G : List Q} {s : Nat} (h : s < G.length) : lk (G.map bar) (s : Int) = bar (lk G (s : Int)) := by
  unfold lk
  rw [Int.toNat_natCast, List.getD_eq_getElem?_getD, List.getD_eq_getElem?_getD, List.getElem?_map, List.getElem?_eq_getElem h]
  rfl
/-- the fixed field of the transformed field is the fixed field, turned by the unit of the site 0 -/
theorem fx_tf {a b c : Int} {N : Nat} {L G : List Q} (hF : Fl a b c L) (hN : (N : Int) = a * b * c) (hg : G.length = N) (hL : AllS L) (hG : AllS G) : fxL a b c N (tfL a b c L G) = tfL a b c (fxL a b c N L) (List.replicate N (lk G 0)) := by
  have hz := hF.z
  have hn := hF.n
  obtain ⟨-, -, p3, -⟩ := mul_rng hz.a1 hz.a4 hz.b1 hz.b4 hz.c1 hz.c4
  have h3 : 3 * G.length = L.length := by omega
  have s0 : Sm2 (lk G 0) := hG.lk (by omega) (by omega)
  have hbr : AllS (brL a b c N L) := brL_all hF hL hN
  have hbl : (brL a b c N L).length = N := brL_len _ _ _ _ _
  have hco : AllS (coL (brL a b c N L) (G.map bar)) := hbr.co hG.bars (by rw [List.length_map]; omega)
  have hcl : (coL (brL a b c N L) (G.map bar)).length = N := by rw [coL_len]; exact hbl
  have hF' : Fl a b c (tfL a b c L G) := by
    have hA := AllS.tf hz hn h3 hL hG
    exact ⟨hz, by rw [tfL_len]; exact hn, fun i x hx => ⟨(hA i x hx).1, by have := (hA i x hx).2; omega⟩⟩
  have hb : brL a b c N (tfL a b c L G) = coL (List.replicate N (lk G 0)) (coL (brL a b c N L) (G.map bar)) := by
    refine lk_ext (by rw [brL_len, coL_len, List.length_replicate]) fun s hs => ?_
    rw [brL_len] at hs
    rw [br_tf hz hN hn hg hL hG s hs, coL_lk (by omega) (by rw [List.length_replicate]; omega), lk_rep (by omega) (by omega), coL_lk (by omega) (by omega), lk_bars (by omega), low_mul_right _ _ (mul_len _ _ (hbr.lk (by omega) (by omega)).1.u (bar_len _ (hG.lk (by omega) (by omega)).1.u)).pos, mul_assoc]
  show tfL a b c (tfL a b c L G) (brL a b c N (tfL a b c L G)) = _
  rw [hb, ← tf_co hF' ((AllS.rep s0 N).gg (by rw [List.length_replicate, tfL_len]; omega)) (hco.gg (by rw [hcl, tfL_len]; omega)), ← tf_co hF' (hbr.gg (by rw [hbl, tfL_len]; omega)) (hG.bars.gg (by rw [List.length_map, tfL_len]; omega)), tf_tf hF (hG.gg h3)]
  rfl
/-- turned by a unit -/
def cj (g x : Q) : Q := low (mul (mul g x) (bar g))
theorem tf_rep {a b c : Int} {N : Nat} {T : List Q} {g : Q} (hz : Sz a b c) (hN : (N : Int) = a * b * c) (hn : (T.length : Int) = 3 * (a * b * c)) {k : Nat} (hk : k < T.length) : lk (tfL a b c T (List.replicate N g)) (k : Int) = cj g (lk T (k : Int)) := by
  obtain ⟨t0, t1⟩ := ahd_rng hz k
  have h2 := lk_get (L := tfL a b c T (List.replicate N g)) (i := (k : Int)) (by omega) (by rw [tfL_len]; omega)
  rw [Int.toNat_natCast, tfL_get hk] at h2
  rw [(Option.some.inj h2).symm, tfK, lk_rep (by omega) (by omega), lk_rep t0 (by omega)]
  rfl
theorem lpK_cj (g : Q) {S T : List Q} (tr : List Int) : ∀ k, (∀ j : Nat, j < k → lk S (j : Int) = cj g (lk T (j : Int))) → lpK S tr k = (lpK T tr k).map (cj g)
  | 0, _ => rfl
  | k + 1, h => by
    have ih := lpK_cj g (S := S) (T := T) tr k (fun j hj => h j (by omega))
    unfold lpK
    rw [ih, h k (by omega)]
    split <;> simp
/-- the loops of the transformed field are the loops, turned by the unit of the site 0 -/
theorem lp_tf {a b c : Int} {N : Nat} {L G : List Q} (hF : Fl a b c L) (hN : (N : Int) = a * b * c) (hg : G.length = N) (hL : AllS L) (hG : AllS G) : lpL a b c N (tfL a b c L G) = (lpL a b c N L).map (cj (lk G 0)) := by
  unfold lpL
  rw [fx_tf hF hN hg hL hG, tfL_len]
  refine lpK_cj _ _ _ (fun j hj => tf_rep hF.z hN (by rw [fxL_len]; exact hF.n) (by rw [fxL_len]; exact hj))
/-- what is turned has the unit as a certificate -/
theorem turns_cj {g u : Q} (hg : U g) (hu : U u) : turnsP g u (cj g u) := fun k hk => by
  unfold cj
  have hM := mul_len _ _ (mul_len _ _ hg hu) (bar_len _ hg)
  have hs := scale_low (mul (mul g u) (bar g))
  have hp := g_pos _ hM.pos
  generalize hl : low (mul (mul g u) (bar g)) = v at *
  have e1 : scale (Um.g (mul (mul g u) (bar g))) (mul v g) = scale (g.n * g.n) (mul g u) := by
    rw [← scale_mul, hs, mul_assoc, bar_mul g hg, mul_scale, mul_one']
  have e2 : (Um.g (mul (mul g u) (bar g)) : Int) * v.n = g.n * g.n * u.n := by
    have := congrArg Q.n hs
    have h3 : (mul (mul g u) (bar g)).n = g.n * u.n * g.n := rfl
    rw [h3] at this
    have h4 : (scale (Um.g (mul (mul g u) (bar g))) v).n = (Um.g (mul (mul g u) (bar g)) : Int) * v.n := rfl
    rw [← h4, this]
    grind
  have e3 : (Um.g (mul (mul g u) (bar g)) : Int) * cmp k (mul v g) = g.n * g.n * cmp k (mul g u) := by
    have hc : ∀ (s : Int) (x : Q), cmp k (scale s x) = s * cmp k x := fun s x => by
      rcases cases4 hk with rfl | rfl | rfl | rfl <;> rfl
    rw [← hc, e1, hc]
  generalize (Um.g (mul (mul g u) (bar g)) : Int) = γ at *
  have e4 : γ * (cmp k (mul g u) * v.n) = γ * (cmp k (mul v g) * u.n) := by
    have h1 : γ * (cmp k (mul g u) * v.n) = cmp k (mul g u) * (γ * v.n) := by grind
    have h2 : γ * (cmp k (mul v g) * u.n) = (γ * cmp k (mul v g)) * u.n := by grind
    rw [h1, h2, e2, e3]
    grind
  exact Int.eq_of_mul_eq_mul_left (by omega) e4
theorem car_cj {X : List Q} {g : Q} (hX : AllS X) (hg : U g) : carP X (X.map (cj g)) g := fun i hi => by
  have h : lk (X.map (cj g)) (i : Int) = cj g (lk X (i : Int)) := by
    unfold lk
    rw [Int.toNat_natCast, List.getD_eq_getElem?_getD, List.getD_eq_getElem?_getD, List.getElem?_map, List.getElem?_eq_getElem hi]
    rfl
  rw [h]
  exact turns_cj hg (hX.lk (by omega) (by omega)).1.u
end Go.Proofs.Ytojmagooapjohaa
