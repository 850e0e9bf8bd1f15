/- The fixed field: its links in the tree are 1, and it is its own fixed field; mathematics.
Conditions: those written at each theorem. -/
import Derived.Test.YtegeamfacajeeaaHwC
import Derived.Test.YtegeamfacajeeaaGsC
import Derived.Test.YtegeamfacajeeaaGauG
namespace Go.Proofs.Ytegeamfacajeeaa
set_option linter.unusedVariables false
set_option linter.unusedSimpArgs false
set_option maxRecDepth 1000000
open Go.RowKit
open Um Tm

/-- no later link of the list leads to where this one begins or ends -/
def gdB (a b c : Int) : List Int → Bool
  | [] => true
  | k :: l => (k :: l).all (fun m => decide (ahd a b c m.toNat ≠ ((k.toNat / 3 : Nat) : Int))) && l.all (fun m => decide (ahd a b c m.toNat ≠ ahd a b c k.toNat)) && gdB a b c l
def fxB (a b c : Int) (N : Nat) : List Int → Bool := fun l => decide (l.length + 1 = N) && gdB a b c l
def fxAll : Bool := (List.range 4).all fun a => (List.range 4).all fun b => (List.range 4).all fun c => decide (16 < (a + 1) * (b + 1) * (c + 1)) || fxB (a + 1) (b + 1) (c + 1) ((a + 1) * (b + 1) * (c + 1)) (trAt (a + 1) (b + 1) (c + 1) (3 * ((a + 1) * (b + 1) * (c + 1)))).2
theorem fxAll_true : fxAll = true := by decide +kernel
theorem tr_gd {a b c : Int} {N : Nat} (hz : Sz a b c) (hN : (N : Int) = a * b * c) : (trL a b c N).length + 1 = N ∧ gdB a b c (trL a b c N) = true := by
  obtain ⟨a1, a4, b1, b4, c1, c4, hp⟩ := hz
  obtain ⟨A, rfl⟩ : ∃ A : Nat, a = ((A : Int) + 1) := ⟨(a - 1).toNat, by omega⟩
  obtain ⟨B, rfl⟩ : ∃ B : Nat, b = ((B : Int) + 1) := ⟨(b - 1).toNat, by omega⟩
  obtain ⟨C, rfl⟩ : ∃ C : Nat, c = ((C : Int) + 1) := ⟨(c - 1).toNat, by omega⟩
  have h := fxAll_true
  simp only [fxAll, List.all_eq_true, List.mem_range] at h
  have h2 := h A (by omega) B (by omega) C (by omega)
  have e : (((A + 1) * (B + 1) * (C + 1) : Nat) : Int) = ((A : Int) + 1) * ((B : Int) + 1) * ((C : Int) + 1) := by simp
  obtain rfl : N = (A + 1) * (B + 1) * (C + 1) := by omega
  have h3 : decide (16 < (A + 1) * (B + 1) * (C + 1)) = false := by
    rw [decide_eq_false_iff_not]
    omega
  rw [h3, Bool.false_or, fxB, Bool.and_eq_true, decide_eq_true_eq] at h2
  exact h2
theorem lk_setG {L : List Q} {i j : Int} (h0 : 0 ≤ i) (h1 : i < (L.length : Int)) (j0 : 0 ≤ j) (x : Q) : lk (L.set i.toNat x) j = if j = i then x else lk L j := by
  unfold lk
  rw [List.getD_eq_getElem?_getD, List.getD_eq_getElem?_getD, List.getElem?_set]
  by_cases h : j = i
  · subst h
    rw [if_pos rfl, if_pos rfl, if_pos (by omega)]
    rfl
  · rw [if_neg (by omega), if_neg h]
/-- what a list of links leaves as it was -/
theorem fold_out {a b c : Int} {L : List Q} (hz : Sz a b c) : ∀ (l : List Int) (G : List Q), (G.length : Int) = a * b * c → ∀ t : Int, 0 ≤ t → (∀ m ∈ l, ahd a b c m.toNat ≠ t) → lk (l.foldl (brF a b c L) G) t = lk G t := by
  intro l
  induction l with
  | nil => intro G _ t _ _; rfl
  | cons k l ih =>
    intro G hG t ht hl
    rw [List.foldl_cons, ih _ (by rw [brF_len]; exact hG) t ht (fun m hm => hl m (List.mem_cons_of_mem _ hm))]
    obtain ⟨t0, t1⟩ := ahd_rng hz k.toNat
    unfold brF
    rw [lk_setG t0 (by omega) ht, if_neg (fun e => hl k List.mem_cons_self e.symm)]
theorem fold_tree {a b c : Int} {L : List Q} (hz : Sz a b c) : ∀ (l : List Int) (G : List Q), (G.length : Int) = a * b * c → gdB a b c l = true → ∀ k ∈ l, lk (l.foldl (brF a b c L) G) (ahd a b c k.toNat) = low (mul (lk (l.foldl (brF a b c L) G) ((k.toNat / 3 : Nat) : Int)) (lk L k)) := by
  intro l
  induction l with
  | nil => intro G _ _ k hk; simp at hk
  | cons m l ih =>
    intro G hG hg k hk
    simp only [gdB, Bool.and_eq_true, List.all_eq_true, decide_eq_true_eq] at hg
    obtain ⟨⟨h1, h2⟩, h3⟩ := hg
    obtain ⟨t0, t1⟩ := ahd_rng hz m.toNat
    rw [List.foldl_cons]
    have hG1 : ((brF a b c L G m).length : Int) = a * b * c := by rw [brF_len]; exact hG
    rcases List.mem_cons.1 hk with rfl | hk
    · rw [fold_out hz l _ hG1 _ t0 h2, fold_out hz l _ hG1 _ (by omega) (fun m hm => h1 m (List.mem_cons_of_mem _ hm))]
      have hne := h1 k List.mem_cons_self
      unfold brF
      rw [lk_setG t0 (by omega) t0, if_pos rfl, lk_setG t0 (by omega) (by omega), if_neg (fun e => hne e.symm)]
    · exact ih _ hG1 h3 k hk
/-- the links of the fixed field in the tree are 1 -/
theorem fx_one {a b c : Int} {N : Nat} {L : List Q} (hF : Fl a b c L) (hS : AllS L) (hN : (N : Int) = a * b * c) : ∀ k ∈ trL a b c N, lk (fxL a b c N L) k = one := fun k hk => by
  have hn := hF.n
  obtain ⟨k0, k1⟩ := tr_mem hF.z hN (3 * N) (Nat.le_refl _) k hk
  have hB : AllS (brL a b c N L) := brL_all hF hS hN
  have hbl := brL_len a b c N L
  have h1 : lk (brL a b c N L) (ahd a b c k.toNat) = low (mul (lk (brL a b c N L) ((k.toNat / 3 : Nat) : Int)) (lk L k)) := fold_tree hF.z (trL a b c N) (List.replicate N one) (by simp; exact hN) (tr_gd hF.z hN).2 k hk
  have ux := (hB.lk (k := ((k.toNat / 3 : Nat) : Int)) (by omega) (by omega)).1.u
  have uy := (hS.lk (k := k) k0 (by omega)).1.u
  have uM := mul_len _ _ ux uy
  have h2 := lk_get (L := fxL a b c N L) k0 (by rw [fxL_len]; omega)
  rw [fxL, tfL_get (by omega)] at h2
  have h3 := (Option.some.inj h2).symm
  rw [show tfL a b c L (brL a b c N L) = fxL a b c N L from rfl] at h3
  rw [h3, tfK, h1, show ((k.toNat : Nat) : Int) = k by omega]
  rw [← Tm.low_bar _ uM.pos, low_mul_right _ _ (bar_len _ uM).pos, low_mul_bar _ uM]
theorem set_rep (N t : Nat) (x : Q) : (List.replicate N x).set t x = List.replicate N x := by
  apply List.ext_getElem?
  intro i
  rw [List.getElem?_set]
  split
  · rename_i h
    subst h
    split
    · rename_i h
      rw [List.getElem?_replicate, if_pos (by simpa using h)]
    · rename_i h
      rw [List.getElem?_replicate, if_neg (by simpa using h)]
  · rfl
theorem lk_rep {N : Nat} {x : Q} {i : Int} (h0 : 0 ≤ i) (h1 : i < (N : Int)) : lk (List.replicate N x) i = x := by
  have := lk_get (L := List.replicate N x) h0 (by simpa using h1)
  rw [List.getElem?_replicate, if_pos (by omega)] at this
  exact (Option.some.inj this).symm
theorem fold_ones {a b c : Int} {L : List Q} {N : Nat} : ∀ l : List Int, (∀ k ∈ l, lk L k = one ∧ 0 ≤ k ∧ k < 3 * (N : Int)) → l.foldl (brF a b c L) (List.replicate N one) = List.replicate N one := by
  intro l
  induction l with
  | nil => intro _; rfl
  | cons k l ih =>
    intro hl
    obtain ⟨h1, h2, h3⟩ := hl k List.mem_cons_self
    rw [List.foldl_cons, show brF a b c L (List.replicate N one) k = List.replicate N one from ?_]
    · exact ih fun m hm => hl m (List.mem_cons_of_mem _ hm)
    · unfold brF
      rw [h1, lk_rep (by omega) (by omega), show low (mul one one) = one by decide, set_rep]
theorem br_ones {a b c : Int} {N : Nat} {L : List Q} (hF : Fl a b c L) (hS : AllS L) (hN : (N : Int) = a * b * c) : brL a b c N (fxL a b c N L) = List.replicate N one :=
  fold_ones (trL a b c N) fun k hk => ⟨fx_one hF hS hN k hk, tr_mem hF.z hN (3 * N) (Nat.le_refl _) k hk⟩
theorem fx_Fl {a b c : Int} {N : Nat} {L : List Q} (hF : Fl a b c L) (hS : AllS L) (hN : (N : Int) = a * b * c) : fldR a b c (fxL a b c N L) 0 :=
  fldR_small hF.z (by rw [fxL_len]; exact hF.n) (fxL_all hF hS hN)
theorem fx_fx {a b c : Int} {N : Nat} {L : List Q} (hF : Fl a b c L) (hS : AllS L) (hN : (N : Int) = a * b * c) : fxL a b c N (fxL a b c N L) = fxL a b c N L := by
  have hn := hF.n
  have hl := fxL_len a b c N L
  have hA := fxL_all hF hS hN
  have hb := br_ones hF hS hN
  generalize hM : fxL a b c N L = M at *
  unfold fxL
  rw [hb]
  apply List.ext_getElem?
  intro i
  by_cases hi : i < M.length
  · obtain ⟨t0, t1⟩ := ahd_rng hF.z i
    rw [tfL_get hi, lk_at hi, tfK, lk_rep (by omega) (by omega), lk_rep t0 (by omega), one_mul', Tm.bar_one, mul_one', (hA.lk (k := (i : Int)) (by omega) (by omega)).1.low]
  · rw [List.getElem?_eq_none (by rw [tfL_len]; omega), List.getElem?_eq_none (by omega)]
/-- the loops of the fixed field are those of the field -/
theorem lp_fx {a b c : Int} {N : Nat} {L : List Q} (hF : Fl a b c L) (hS : AllS L) (hN : (N : Int) = a * b * c) : lpL a b c N (fxL a b c N L) = lpL a b c N L := by
  unfold lpL
  rw [fx_fx hF hS hN, fxL_len]
end Go.Proofs.Ytegeamfacajeeaa
