/- The field with opposite links at one end of a direction: its plaquettes stay, and the loops around change their sign; mathematics, no Go.
Conditions: those written at each theorem. -/
import Derived.Test.YtkgihmhehkaocaaGreatRLzC
import Derived.Test.YtkgihmhehkaocaaGreatRLqA
import Derived.Test.YtkgihmhehkaocaaGreatRGauE
namespace Go.Proofs.YtkgihmhehkaocaaGreat
set_option linter.unusedVariables false
set_option linter.unusedSimpArgs false
set_option maxRecDepth 1000000
open Go.RowKit
open Um Tm Lm

/-- whether the link of a number is turned round -/
def cenB (a b c d i : Int) : Bool := decide (i % 3 = d) && decide ((if d = 0 then i / 3 % a else if d = 1 then i / 3 / a % b else i / 3 / a / b) = 0)
def sgC (e : Bool) (x : Q) : Q := if e then neg x else x
def cenK (a b c d : Int) (L : List Q) (i : Nat) : Q := sgC (cenB a b c d (i : Int)) (lk L (i : Int))
def cenL (a b c d : Int) (L : List Q) : List Q := (List.range L.length).map (cenK a b c d L)
theorem cenL_len (a b c d : Int) (L : List Q) : (cenL a b c d L).length = L.length := by simp [cenL]
theorem cenL_get {a b c d : Int} {L : List Q} {i : Nat} (hi : i < L.length) : (cenL a b c d L)[i]? = some (cenK a b c d L i) := by simp [cenL, List.getElem?_range hi]
theorem cenL_lk {a b c d : Int} {L : List Q} {i : Int} (h0 : 0 ≤ i) (h1 : i < (L.length : Int)) : lk (cenL a b c d L) i = sgC (cenB a b c d i) (lk L i) := by
  obtain ⟨k, rfl⟩ : ∃ k : Nat, i = (k : Int) := ⟨i.toNat, by omega⟩
  have := lk_at (L := cenL a b c d L) (i := k) (by rw [cenL_len]; omega)
  rw [cenL_get (by omega)] at this
  exact (Option.some.inj this).symm
theorem sgC_V {e : Bool} {x : Q} (h : V x) : V (sgC e x) := by
  cases e
  · exact h
  · exact h.neg
theorem sgC_n (e : Bool) (x : Q) : (sgC e x).n = x.n := by cases e <;> rfl
theorem cen_Fl {a b c d : Int} {L : List Q} (hF : Fl a b c L) : Fl a b c (cenL a b c d L) := ⟨hF.z, by rw [cenL_len]; exact hF.n, fun i x hx => by
  have hi : i < L.length := by have := (List.getElem?_eq_some_iff.1 hx).1; rwa [cenL_len] at this
  rw [cenL_get hi] at hx
  cases hx
  obtain ⟨h1, h2⟩ := hF.v _ _ (lk_at (L := L) (i := i) hi)
  exact ⟨sgC_V h1, by unfold cenK; rw [sgC_n]; exact h2⟩⟩
theorem mul_sg (e f : Bool) (x y : Q) : mul (sgC e x) (sgC f y) = sgC (e ^^ f) (mul x y) := by
  cases e <;> cases f <;> simp [sgC, mul, neg] <;> grind
theorem bar_sg (e : Bool) (x : Q) : bar (sgC e x) = sgC e (bar x) := by
  cases e <;> simp [sgC, bar, neg]
theorem low_sg (e : Bool) (x : Q) : low (sgC e x) = sgC e (low x) := by
  cases e
  · rfl
  · obtain ⟨h1, h2, h3, h4, _⟩ := g_dvd x
    show low (neg x) = neg (low x)
    unfold low
    rw [g_neg]
    simp only [neg, Int.neg_ediv_of_dvd h1, Int.neg_ediv_of_dvd h2, Int.neg_ediv_of_dvd h3, Int.neg_ediv_of_dvd h4]
/-- whether a step goes along a link that is turned round -/
def cenS (a b c d s t : Int) : Bool := if 0 < t then cenB a b c d (3 * s + t - 1) else cenB a b c d (3 * nx a b c s t - t - 1)
def par (a b c d : Int) : Int → List Int → Bool
  | _, [] => false
  | s, t :: l => cenS a b c d s t ^^ par a b c d (nx a b c s t) l
theorem up_cen {a b c d : Int} {L : List Q} (hF : Fl a b c L) {s t : Int} (h0 : 0 ≤ s) (h1 : s < a * b * c) (ht : IsStep t) : up a b c (cenL a b c d L) s t = sgC (cenS a b c d s t) (up a b c L s t) := by
  have hn := hF.n
  unfold up cenS
  by_cases hp : 0 < t
  · rw [if_pos hp, if_pos hp, if_pos hp]
    obtain ⟨i0, i1⟩ := idx_pos h0 h1 hp ht.2.2
    exact cenL_lk i0 (by omega)
  · rw [if_neg hp, if_neg hp, if_neg hp]
    obtain ⟨i0, i1⟩ := idx_neg (s := s) hF.z ht hp
    rw [cenL_lk i0 (by omega), bar_sg]
theorem fm_cen {a b c d : Int} {L : List Q} (hF : Fl a b c L) : ∀ (l : List Int) (s : Int), 0 ≤ s → s < a * b * c → (∀ t ∈ l, IsStep t) → fm (ups a b c (cenL a b c d L) s l) = sgC (par a b c d s l) (fm (ups a b c L s l)) := by
  intro l
  induction l with
  | nil => intro s _ _ _; rfl
  | cons t l ih =>
    intro s h0 h1 hl
    obtain ⟨r0, r1⟩ := nx_rng hF.z s t
    have e := ih (nx a b c s t) r0 r1 (fun u hu => hl u (List.mem_cons_of_mem _ hu))
    show fm (up a b c (cenL a b c d L) s t :: ups a b c (cenL a b c d L) (nx a b c s t) l) = sgC (cenS a b c d s t ^^ par a b c d (nx a b c s t) l) (fm (up a b c L s t :: ups a b c L (nx a b c s t) l))
    rw [fm_cons, fm_cons, e, up_cen hF h0 h1 (hl t List.mem_cons_self), mul_sg]
theorem al_cen {a b c d : Int} {L : List Q} (hF : Fl a b c L) {l : List Int} {s : Int} (h0 : 0 ≤ s) (h1 : s < a * b * c) (hl : ∀ t ∈ l, IsStep t) : al a b c (cenL a b c d L) s l = sgC (par a b c d s l) (al a b c L s l) := by
  unfold al
  rw [fm_cen hF l s h0 h1 hl, low_sg]
set_option maxHeartbeats 3200000 in
theorem par_all : ((List.range 5).all fun a => (List.range 5).all fun b => (List.range 5).all fun c => a == 0 || b == 0 || c == 0 || decide (16 < a * b * c) || (List.range (a * b * c)).all fun s => (List.range 3).all fun d => ((List.range 3).all fun n => !(par a b c d s (pth n))) && par a b c d s (List.replicate (if d = 0 then a else if d = 1 then b else c) ((d : Int) + 1))) = true := by decide +kernel
theorem par_fact {a b c d s : Nat} (ha : 1 ≤ a ∧ a ≤ 4) (hb : 1 ≤ b ∧ b ≤ 4) (hc : 1 ≤ c ∧ c ≤ 4) (hp : a * b * c ≤ 16) (hs : s < a * b * c) (hd : d < 3) : (∀ n : Nat, n < 3 → par a b c d s (pth n) = false) ∧ par a b c d s (List.replicate (if d = 0 then a else if d = 1 then b else c) ((d : Int) + 1)) = true := by
  have h := par_all
  rw [List.all_eq_true] at h
  have h := h a (List.mem_range.2 (by omega))
  rw [List.all_eq_true] at h
  have h := h b (List.mem_range.2 (by omega))
  rw [List.all_eq_true] at h
  have h := h c (List.mem_range.2 (by omega))
  have e0 : (a == 0) = false := by simp; omega
  have e1 : (b == 0) = false := by simp; omega
  have e2 : (c == 0) = false := by simp; omega
  have e3 : decide (16 < a * b * c) = false := by simp; omega
  rw [e0, e1, e2, e3] at h
  simp only [Bool.false_or] at h
  rw [List.all_eq_true] at h
  have h := h s (List.mem_range.2 hs)
  rw [List.all_eq_true] at h
  have h := h d (List.mem_range.2 hd)
  rw [Bool.and_eq_true] at h
  obtain ⟨h1, h2⟩ := h
  rw [List.all_eq_true] at h1
  exact ⟨fun n hn => by simpa using h1 n (List.mem_range.2 hn), h2⟩
theorem par_int {a b c d s : Int} (hz : Sz a b c) (h0 : 0 ≤ s) (h1 : s < a * b * c) (d0 : 0 ≤ d) (d2 : d ≤ 2) : (∀ n : Int, 0 ≤ n → n < 3 → par a b c d s (pth n) = false) ∧ par a b c d s (List.replicate (if d = 0 then a.toNat else if d = 1 then b.toNat else c.toNat) (d + 1)) = true := by
  obtain ⟨a1, a4, b1, b4, c1, c4, hp⟩ := hz
  obtain ⟨a, rfl⟩ : ∃ k : Nat, a = (k : Int) := ⟨a.toNat, by omega⟩
  obtain ⟨b, rfl⟩ : ∃ k : Nat, b = (k : Int) := ⟨b.toNat, by omega⟩
  obtain ⟨c, rfl⟩ : ∃ k : Nat, c = (k : Int) := ⟨c.toNat, by omega⟩
  obtain ⟨d, rfl⟩ : ∃ k : Nat, d = (k : Int) := ⟨d.toNat, by omega⟩
  obtain ⟨s, rfl⟩ : ∃ k : Nat, s = (k : Int) := ⟨s.toNat, by omega⟩
  have e : (a : Int) * b * c = ((a * b * c : Nat) : Int) := by simp
  rw [e] at hp h1
  obtain ⟨k1, k2⟩ := par_fact (a := a) (b := b) (c := c) (d := d) (s := s) (by omega) (by omega) (by omega) (by omega) (by omega) (by omega)
  refine ⟨fun n n0 n3 => ?_, ?_⟩
  · obtain ⟨n, rfl⟩ : ∃ k : Nat, n = (k : Int) := ⟨n.toNat, by omega⟩
    exact k1 n (by omega)
  · rw [← k2]
    congr 2
    have : d = 0 ∨ d = 1 ∨ d = 2 := by omega
    rcases this with rfl | rfl | rfl <;> simp
theorem pq_cen {a b c d : Int} {L : List Q} (hF : Fl a b c L) (d0 : 0 ≤ d) (d2 : d ≤ 2) {i : Nat} (hi : (i : Int) < 3 * (a * b * c)) : pq a b c (cenL a b c d L) i = pq a b c L i := by
  unfold pq
  rw [al_cen hF (by omega) (by omega) (pth_steps _), (par_int hF.z (by omega) (by omega) d0 d2).1 _ (by omega) (by omega)]
  rfl
theorem pqs_cen {a b c d : Int} {L : List Q} (hF : Fl a b c L) (d0 : 0 ≤ d) (d2 : d ≤ 2) {N : Nat} (hN : (N : Int) = a * b * c) : plqs a b c (cenL a b c d L) (List.range N) = plqs a b c L (List.range N) := by
  rw [pqs_plqs, pqs_plqs]
  unfold pqs
  apply List.map_congr_left
  intro i hi
  have := List.mem_range.1 hi
  exact pq_cen hF d0 d2 (by omega)
/-- the opposite rational -/
def ngR (r : Int × Int) : Int × Int := (-r.1, r.2)
theorem rat_ng (x y : Int) : rat (-x) y = ngR (rat x y) := by
  unfold rat ngR
  rw [Int.natAbs_neg]
  have : (Nat.gcd x.natAbs y.natAbs : Int) ∣ x := Int.ofNat_dvd_left.2 (Nat.gcd_dvd_left _ _)
  rw [Int.neg_ediv_of_dvd this]
theorem tr_ng (x : Q) : tr (neg x) = ngR (tr x) := by
  unfold tr
  rw [← rat_ng, show 2 * (neg x).a = -(2 * x.a) by simp [neg]; omega]
  rfl
theorem tl_cen {a b c d : Int} {L : List Q} (hF : Fl a b c L) (d0 : 0 ≤ d) (d2 : d ≤ 2) {N : Nat} (hN : (N : Int) = a * b * c) {p : List Int} (hp : ∀ t ∈ p, IsStep t) (he : p = List.replicate (if d = 0 then a.toNat else if d = 1 then b.toNat else c.toNat) (d + 1)) : tl a b c (cenL a b c d L) p N = (tl a b c L p N).map ngR := by
  unfold tl
  rw [List.map_map]
  apply List.map_congr_left
  intro i hi
  have := List.mem_range.1 hi
  have e := (par_int hF.z (s := (i : Int)) (by omega) (by omega) d0 d2).2
  rw [← he] at e
  show tr (al a b c (cenL a b c d L) (i : Int) p) = ngR (tr (al a b c L (i : Int) p))
  rw [al_cen hF (by omega) (by omega) hp, e]
  exact tr_ng _
theorem sumR_ng (l : List (Int × Int)) : sumR (l.map ngR) = -sumR l := by
  induction l with
  | nil => rfl
  | cons r l ih =>
    have e : ∀ (r : Int × Int) (l : List (Int × Int)), sumR (r :: l) = wt r + sumR l := fun r l => by simp [sumR]
    rw [List.map_cons, e, e, ih]
    have e2 : wt (ngR r) = -wt r := by unfold wt ngR; exact Int.neg_mul _ _
    omega
theorem meanR_ng (l : List (Int × Int)) : meanR (l.map ngR) = ngR (meanR l) := by
  unfold meanR
  rw [sumR_ng, List.length_map, rat_ng]
theorem rat_le (x y : Int) : (rat x y).1.natAbs ≤ x.natAbs := by
  have h := (rat_part x y).1
  by_cases hg : Nat.gcd x.natAbs y.natAbs = 0
  · have h0 := Nat.gcd_eq_zero_iff.1 hg
    unfold rat
    rw [hg]
    simp
  · have h2 : (rat x y).1.natAbs ≤ ((Nat.gcd x.natAbs y.natAbs : Int) * (rat x y).1).natAbs := by
      rw [Int.natAbs_mul, Int.natAbs_natCast]
      exact Nat.le_mul_of_pos_left _ (Nat.pos_of_ne_zero hg)
    rw [← h] at h2
    exact h2
theorem meanR_bnd {k : Int} {l : List (Int × Int)} (h : ∀ r ∈ l, Rt k r) (hk : 0 ≤ k ∧ k ≤ 2) (hl : l.length ≤ 16) : -(1099511627776 : Int) ≤ (meanR l).1 ∧ (meanR l).1 ≤ 1099511627776 := by
  have h1 := sumR_rng h
  have h2 := rat_le (sumR l) (MM * l.length)
  have h3 : k * MM * (l.length : Int) ≤ 2 * 2562890625 * 16 := by
    have e : MM = 2562890625 := rfl
    rw [e]
    have : k * 2562890625 ≤ 2 * 2562890625 := by omega
    have h0 : 0 ≤ k * 2562890625 := by omega
    have hl' : (l.length : Int) ≤ 16 := by omega
    exact Int.mul_le_mul this hl' (by omega) (by omega)
  show -(1099511627776 : Int) ≤ (rat (sumR l) (MM * l.length)).1 ∧ (rat (sumR l) (MM * l.length)).1 ≤ 1099511627776
  omega
end Go.Proofs.YtkgihmhehkaocaaGreat
