/- Plain mathematics of the values of sums of loops: plain forms keep the value, sums add and products multiply it; no Go.
Conditions: none. -/
import Derived.Test.YtjidbajcnomceaaLoM
set_option autoImplicit false
namespace Lm
set_option linter.unusedVariables false
set_option linter.unusedSimpArgs false
open Tm Um

def KK : Int := 30 ^ 16
theorem KK_pos : 0 < KK := by decide
/-- the trace of a quaternion that need not be in lowest terms, over the common denominator -/
def Tq (x : Q) : Int := 2 * x.a * (KK / x.n)
theorem Tq_low {x : Q} (hx : 0 < x.n) (hd : x.n ∣ KK) : Tq (low x) = Tq x := by
  have hp := low_part x
  have hg : 0 < (g x : Int) := g_pos x hx
  obtain ⟨h1, -, -, -, h5⟩ := hp
  unfold Tq
  have hk : x.n * (KK / x.n) = KK := Int.mul_ediv_cancel' hd
  generalize KK / x.n = v at *
  have e : KK / (low x).n = g x * v := by
    refine Int.ediv_eq_of_eq_mul_right (by
      intro h0
      rw [h0] at h5
      simp at h5
      omega) ?_
    rw [← hk]
    generalize (low x).n = q at *
    generalize (g x : Int) = G at *
    rw [h5]
    grind
  rw [e]
  generalize (low x).a = p at *
  generalize (g x : Int) = G at *
  rw [h1]
  grind
theorem Tq_bar (x : Q) : Tq (bar x) = Tq x := rfl
theorem Tq_mul {x y : Q} (hx : 0 < x.n) (hy : 0 < y.n) (hd : x.n * y.n ∣ KK) : Tq x * Tq y = KK * (Tq (mul x y) + Tq (mul x (bar y))) := by
  have hxd : x.n ∣ KK := Int.dvd_trans ⟨y.n, rfl⟩ hd
  have hyd : y.n ∣ KK := Int.dvd_trans ⟨x.n, by grind⟩ hd
  unfold Tq
  have e1 : (mul x y).n = x.n * y.n := rfl
  have e2 : (mul x (bar y)).n = x.n * y.n := rfl
  have e3 : (mul x y).a + (mul x (bar y)).a = 2 * (x.a * y.a) := by simp only [mul, bar]; grind
  rw [e1, e2]
  have k1 : x.n * (KK / x.n) = KK := Int.mul_ediv_cancel' hxd
  have k2 : y.n * (KK / y.n) = KK := Int.mul_ediv_cancel' hyd
  have k3 : x.n * y.n * (KK / (x.n * y.n)) = KK := Int.mul_ediv_cancel' hd
  generalize KK / x.n = u at *
  generalize KK / y.n = v at *
  generalize KK / (x.n * y.n) = w at *
  have hxy : 0 < x.n * y.n := Int.mul_pos hx hy
  generalize (mul x y).a = p at *
  generalize (mul x (bar y)).a = q at *
  generalize x.a = xa at *
  generalize y.a = ya at *
  generalize x.n = m at *
  generalize y.n = n at *
  have huv : u * v = KK * w := by
    refine Int.eq_of_mul_eq_mul_left (a := m * n) (by omega) ?_
    calc m * n * (u * v) = (m * u) * (n * v) := by grind
      _ = KK * KK := by rw [k1, k2]
      _ = m * n * (KK * w) := by rw [show m * n * (KK * w) = KK * (m * n * w) by grind, k3]
  have e4 : 2 * p * w + 2 * q * w = 4 * (xa * ya) * w := by rw [show 2 * p * w + 2 * q * w = 2 * (p + q) * w by grind, e3]; grind
  rw [e4]
  calc 2 * xa * u * (2 * ya * v) = 4 * (xa * ya) * (u * v) := by grind
    _ = KK * (4 * (xa * ya) * w) := by rw [huv]; grind

/-- the trace along a path, over the common denominator -/
def Tp (a b c : Int) (L : List Q) (s : Int) (p : List Int) : Int := Tq (fm (ups a b c L s p))
theorem pw_dvd {n : Nat} (h : n ≤ 16) : (30 : Int) ^ n ∣ KK := ⟨30 ^ (16 - n), by rw [KK, ← Int.pow_add]; congr 1; omega⟩
theorem fm_K {a b c : Int} {L : List Q} {s : Int} (hF : Fl a b c L) (h0 : 0 ≤ s) (h1 : s < a * b * c) {p : List Int} (hs : ∀ t ∈ p, IsStep t) : 0 < (fm (ups a b c L s p)).n ∧ (fm (ups a b c L s p)).n ∣ 30 ^ p.length := by
  have hV := hF.ups s p h0 h1 hs
  have := fm_thirty _ hV
  rw [ups_len] at this
  exact ⟨(fm_U _ fun x hx => (hV x hx).1).pos, this⟩
theorem Tp_red {a b c : Int} {L : List Q} {s : Int} (hF : Fl a b c L) (h0 : 0 ≤ s) (h1 : s < a * b * c) {p : List Int} (hs : ∀ t ∈ p, IsStep t) (h16 : p.length ≤ 16) : Tp a b c L s (red p) = Tp a b c L s p := by
  have k1 := fm_K hF h0 h1 hs
  have k2 := fm_K hF h0 h1 (red_steps hs)
  have hl := red_len p
  have e := (al_red hF h0 h1 p hs).1
  unfold al at e
  unfold Tp
  rw [← Tq_low k2.1 (Int.dvd_trans k2.2 (pw_dvd (by omega))), e, Tq_low k1.1 (Int.dvd_trans k1.2 (pw_dvd h16))]
theorem Tp_opp {a b c : Int} {L : List Q} {s : Int} (hF : Fl a b c L) (h0 : 0 ≤ s) (h1 : s < a * b * c) {p : List Int} (hs : ∀ t ∈ p, IsStep t) (hc : en a b c s p = s) : Tp a b c L s (opp p) = Tp a b c L s p := by
  have e := ups_opp hF.z L h0 h1 p hs
  rw [hc] at e
  unfold Tp
  rw [e, fm_bar, Tq_bar]
theorem en_red {a b c : Int} {L : List Q} {s : Int} (hF : Fl a b c L) (h0 : 0 ≤ s) (h1 : s < a * b * c) {p : List Int} (hs : ∀ t ∈ p, IsStep t) : en a b c s (red p) = en a b c s p := (al_red hF h0 h1 p hs).2
theorem Tp_pl {a b c : Int} {L : List Q} {s : Int} (hF : Fl a b c L) (h0 : 0 ≤ s) (h1 : s < a * b * c) {p : List Int} (hs : ∀ t ∈ p, IsStep t) (h16 : p.length ≤ 16) (hc : en a b c s p = s) : Tp a b c L s (plL p) = Tp a b c L s p := by
  have hr := Tp_red hF h0 h1 hs h16
  have hcr : en a b c s (red p) = s := by rw [en_red hF h0 h1 hs, hc]
  unfold plL
  rcases mnL_mem (red p) (opp (red p)) with e | e
  · rw [e, hr]
  · rw [e, Tp_opp hF h0 h1 (red_steps hs) hcr, hr]
theorem en_pl {a b c : Int} {L : List Q} {s : Int} (hF : Fl a b c L) (h0 : 0 ≤ s) (h1 : s < a * b * c) {p : List Int} (hs : ∀ t ∈ p, IsStep t) (hc : en a b c s p = s) : en a b c s (plL p) = s := by
  have hcr : en a b c s (red p) = s := by rw [en_red hF h0 h1 hs, hc]
  unfold plL
  rcases mnL_mem (red p) (opp (red p)) with e | e
  · rw [e, hcr]
  · rw [e]
    have := en_opp hF.z h0 h1 (red p)
    rwa [hcr] at this
theorem Tp_mul {a b c : Int} {L : List Q} {s : Int} (hF : Fl a b c L) (h0 : 0 ≤ s) (h1 : s < a * b * c) {p q : List Int} (hs : ∀ t ∈ p, IsStep t) (ht : ∀ t ∈ q, IsStep t) (h8 : p.length ≤ 8) (g8 : q.length ≤ 8) (hc : en a b c s p = s) (hd : en a b c s q = s) : Tp a b c L s p * Tp a b c L s q = KK * (Tp a b c L s (p ++ q) + Tp a b c L s (p ++ opp q)) := by
  have k1 := fm_K hF h0 h1 hs
  have k2 := fm_K hF h0 h1 ht
  have e := ups_opp hF.z L h0 h1 q ht
  rw [hd] at e
  unfold Tp
  rw [ups_app, ups_app, hc, fm_app, fm_app, e, fm_bar]
  refine Tq_mul k1.1 k2.1 (Int.dvd_trans (Int.mul_dvd_mul k1.2 k2.2) ?_)
  rw [← Int.pow_add]
  exact pw_dvd (by omega)
theorem wt_Tp {a b c : Int} {L : List Q} {s : Int} (hF : Fl a b c L) (h0 : 0 ≤ s) (h1 : s < a * b * c) {p : List Int} (hs : ∀ t ∈ p, IsStep t) (h8 : p.length ≤ 8) : wt (tr (al a b c L s p)) * KK = Tp a b c L s p * MM := by
  have k1 := fm_K hF h0 h1 hs
  have hr := tr_rt (ups a b c L s p) (hF.ups s p h0 h1 hs) (by rw [ups_len]; exact h8)
  have hkd := Int.dvd_trans k1.2 (pw_dvd (n := p.length) (by omega))
  have hl := low_part (fm (ups a b c L s p))
  have hgp : 0 < (g (fm (ups a b c L s p)) : Int) := g_pos _ k1.1
  unfold al Tp Tq wt
  have hd := wt_dvd hr
  have hc := rat_cross (2 * (low (fm (ups a b c L s p))).a) (low (fm (ups a b c L s p))).n
  have htr : tr (low (fm (ups a b c L s p))) = rat (2 * (low (fm (ups a b c L s p))).a) (low (fm (ups a b c L s p))).n := rfl
  rw [← htr] at hc
  have hk : (fm (ups a b c L s p)).n * (KK / (fm (ups a b c L s p)).n) = KK := Int.mul_ediv_cancel' hkd
  obtain ⟨l1, -, -, -, l5⟩ := hl
  have hpos := k1.1
  generalize tr (low (fm (ups a b c L s p))) = r at *
  generalize (low (fm (ups a b c L s p))).a = ya at *
  generalize (low (fm (ups a b c L s p))).n = yn at *
  generalize (g (fm (ups a b c L s p)) : Int) = G at *
  generalize (fm (ups a b c L s p)).a = xa at *
  generalize (fm (ups a b c L s p)).n = xn at *
  generalize MM / r.2 = u at *
  generalize KK / xn = v at *
  rw [← hk, ← hd]
  subst l1
  have hyn : yn ≠ 0 := by rintro rfl; omega
  rw [l5]
  have : r.1 * yn = 2 * ya * r.2 := hc.symm
  calc r.1 * u * (G * yn * v) = (r.1 * yn) * (u * G * v) := by grind
    _ = 2 * ya * r.2 * (u * G * v) := by rw [this]
    _ = 2 * (G * ya) * v * (r.2 * u) := by grind

/-! ### sums -/
def SK (f : List Int → Int) (l : List Trm) : Int := (l.map fun t => t.1 * f t.2).sum
theorem SK_nil (f : List Int → Int) : SK f [] = 0 := rfl
theorem SK_cons (f : List Int → Int) (t : Trm) (l : List Trm) : SK f (t :: l) = t.1 * f t.2 + SK f l := by simp [SK]
theorem SK_app (f : List Int → Int) (l m : List Trm) : SK f (l ++ m) = SK f l + SK f m := by simp [SK, List.sum_append]
/-- coefficients that are small -/
def Cof (k : Int) (l : List Trm) : Prop := ∀ t ∈ l, -k ≤ t.1 ∧ t.1 ≤ k
theorem ad_in {x y k : Int} (hk : k ≤ 4611686018427387904) (h1 : -k ≤ x + y) (h2 : x + y ≤ k) : ad x y = x + y := by
  unfold ad Go.RowKit.wrap64
  omega
theorem ins_sum (f : List Int → Int) (t : Trm) (o : List Trm) (k m : Int) (hk : k + m ≤ 4611686018427387904) (ho : Cof k o) (ht : -m ≤ t.1 ∧ t.1 ≤ m) (k0 : 0 ≤ k) : SK f (ins t o) = SK f o + t.1 * f t.2 ∧ Cof (k + m) (ins t o) := by
  induction o with
  | nil =>
    refine ⟨by simp [ins, SK], fun s hs => ?_⟩
    simp [ins] at hs
    rw [hs]; omega
  | cons x r ih =>
    have hx := ho x (by simp)
    have hr : Cof k r := fun s hs => ho s (by simp [hs])
    have i := ih hr
    have hr2 : ∀ s ∈ r, -(k + m) ≤ s.1 ∧ s.1 ≤ k + m := fun s hs => by have := hr s hs; omega
    simp only [ins]
    split
    · refine ⟨by rw [SK_cons, SK_cons, i.1]; omega, fun s hs => ?_⟩
      rcases List.mem_cons.1 hs with e | e
      · rw [e]; omega
      · exact i.2 s e
    · split
      · rename_i e2
        have e := ad_in (x := x.1) (y := t.1) (k := k + m) hk (by omega) (by omega)
        refine ⟨by rw [SK_cons, SK_cons, e, e2, Int.add_mul]; omega, fun s hs => ?_⟩
        rcases List.mem_cons.1 hs with e3 | e3
        · rw [e3]; simp only; omega
        · exact hr2 s e3
      · refine ⟨by rw [SK_cons, SK_cons]; omega, fun s hs => ?_⟩
        rcases List.mem_cons.1 hs with e3 | e3
        · rw [e3]; omega
        · rcases List.mem_cons.1 e3 with e4 | e4
          · rw [e4]; omega
          · exact hr2 s e4
theorem coll_sum (f : List Int → Int) (ts : List Trm) (m : Int) (m0 : 0 ≤ m) (hm : ts.length * m ≤ 4611686018427387904) (ht : Cof m ts) : SK f (coll ts) = SK f ts := by
  have : ∀ (ts o : List Trm) (k : Int), 0 ≤ k → k + ts.length * m ≤ 4611686018427387904 → Cof k o → Cof m ts → SK f (ts.foldl (fun o t => ins t o) o) = SK f o + SK f ts := fun ts => by
    induction ts with
    | nil => intro o k _ _ _ _; simp [SK_nil]
    | cons t r ih =>
      intro o k k0 hk ho ht
      have e0 : ((t :: r).length : Int) * m = (r.length : Int) * m + m := by rw [List.length_cons, Int.natCast_add, Int.add_mul]; simp
      rw [e0] at hk
      have hrm : 0 ≤ (r.length : Int) * m := Int.mul_nonneg (by omega) m0
      have i := ins_sum f t o k m (by omega) ho (ht t (by simp)) k0
      rw [List.foldl_cons, ih (ins t o) (k + m) (by omega) (by omega) i.2 (fun s hs => ht s (by simp [hs])), i.1, SK_cons]
      omega
  have h := this ts [] 0 (by omega) (by omega) (fun s hs => by simp at hs) ht
  rw [SK_nil] at h
  unfold coll
  omega
theorem filter_sum (f : List Int → Int) (l : List Trm) : SK f (l.filter fun t => t.1 ≠ 0) = SK f l := by
  induction l with
  | nil => rfl
  | cons t r ih =>
    rw [List.filter_cons]
    by_cases h : t.1 = 0
    · rw [if_neg (by simpa using h), ih, SK_cons, h]; omega
    · rw [if_pos (by simpa using h), SK_cons, SK_cons, ih]
theorem plT_sum (f : List Int → Int) (ts : List Trm) (m : Int) (m0 : 0 ≤ m) (hm : ts.length * m ≤ 4611686018427387904) (ht : Cof m ts) : SK f (plT ts) = SK f ts := by
  unfold plT
  rw [filter_sum, coll_sum f ts m m0 hm ht]
theorem plT_path {ts : List Trm} {s : Trm} (h : s ∈ plT ts) : ∃ t ∈ ts, s.2 = t.2 := coll_path (List.mem_filter.1 h).1
theorem SK_congr {f h : List Int → Int} {l : List Trm} (e : ∀ t ∈ l, f t.2 = h t.2) : SK f l = SK h l := by
  unfold SK
  congr 1
  exact List.map_congr_left fun t ht => by rw [e t ht]
/-- a sum of loops that has a value at a site -/
structure Val (a b c s : Int) (l : List Trm) : Prop where
  st : ∀ t ∈ l, (∀ x ∈ t.2, IsStep x) ∧ t.2.length ≤ 8
  cl : ∀ t ∈ l, en a b c s t.2 = s
  co : Cof 1000 l
  n : l.length ≤ 40
/-- the value of a sum of loops -/
def valR (a b c : Int) (L : List Q) (s : Int) (l : List Trm) : Int × Int := rat (SK (Tp a b c L s) l) KK
def vals (a b c : Int) (L : List Q) (s : Int) (l : List Trm) : List (Int × Int) := l.map fun t => (t.1 * (tr (al a b c L s t.2)).1, (tr (al a b c L s t.2)).2)
def valsL (a b c : Int) (L : List Q) (s : Int) (l : List Trm) : List (Int × Int) := l.map fun t => rat (t.1 * (tr (al a b c L s t.2)).1) (tr (al a b c L s t.2)).2
theorem vals_rt {a b c : Int} {L : List Q} {s : Int} (hF : Fl a b c L) (h0 : 0 ≤ s) (h1 : s < a * b * c) {l : List Trm} (h : Val a b c s l) : (∀ r ∈ vals a b c L s l, Rt 2000 r) ∧ ∀ r ∈ valsL a b c L s l, Rt 2000 r := by
  have key : ∀ t ∈ l, Rt 2000 (t.1 * (tr (al a b c L s t.2)).1, (tr (al a b c L s t.2)).2) := fun t ht => by
    obtain ⟨hs, h8⟩ := h.st t ht
    have hr := tr_rt (ups a b c L s t.2) (hF.ups s t.2 h0 h1 hs) (by rw [ups_len]; exact h8)
    have hc := h.co t ht
    exact mul_Rt (k := 2) (m := 1000) hr hc.1 hc.2 (by omega)
  constructor
  · intro r hr
    obtain ⟨t, ht, rfl⟩ := List.mem_map.1 hr
    exact key t ht
  · intro r hr
    obtain ⟨t, ht, rfl⟩ := List.mem_map.1 hr
    exact rat_Rt (key t ht)
theorem vals_sum {a b c : Int} {L : List Q} {s : Int} (hF : Fl a b c L) (h0 : 0 ≤ s) (h1 : s < a * b * c) {l : List Trm} (h : Val a b c s l) : sumR (vals a b c L s l) * KK = SK (Tp a b c L s) l * MM ∧ sumR (valsL a b c L s l) = sumR (vals a b c L s l) := by
  have key : ∀ l : List Trm, (∀ t ∈ l, (∀ x ∈ t.2, IsStep x) ∧ t.2.length ≤ 8) → sumR (vals a b c L s l) * KK = SK (Tp a b c L s) l * MM ∧ sumR (valsL a b c L s l) = sumR (vals a b c L s l) := fun l => by
    induction l with
    | nil => intro _; simp [vals, valsL, sumR, SK]
    | cons t r ih =>
      intro hst
      obtain ⟨i1, i2⟩ := ih fun u hu => hst u (by simp [hu])
      obtain ⟨hs, h8⟩ := hst t (by simp)
      have hw := wt_Tp hF h0 h1 hs h8
      have hr := tr_rt (ups a b c L s t.2) (hF.ups s t.2 h0 h1 hs) (by rw [ups_len]; exact h8)
      have e1 : sumR (vals a b c L s (t :: r)) = t.1 * wt (tr (al a b c L s t.2)) + sumR (vals a b c L s r) := by
        simp [vals, sumR, wt, Int.mul_assoc]
      have e2 : sumR (valsL a b c L s (t :: r)) = wt (rat (t.1 * (tr (al a b c L s t.2)).1) (tr (al a b c L s t.2)).2) + sumR (valsL a b c L s r) := by
        simp [valsL, sumR]
      have e3 : wt (rat (t.1 * (tr (al a b c L s t.2)).1) (tr (al a b c L s t.2)).2) = t.1 * wt (tr (al a b c L s t.2)) := by
        rw [rat_wt (y := (tr (al a b c L s t.2)).2) hr.pos hr.dvd]
        simp [wt, Int.mul_assoc]
      refine ⟨?_, by rw [e2, e3, i2, e1]⟩
      rw [e1, SK_cons, Int.add_mul, Int.add_mul, i1, Int.mul_assoc, hw, Int.mul_assoc]
  exact key l h.st
theorem valR_ac {a b c : Int} {L : List Q} {s : Int} (hF : Fl a b c L) (h0 : 0 ≤ s) (h1 : s < a * b * c) {l : List Trm} (h : Val a b c s l) : acR (valsL a b c L s l) = valR a b c L s l ∧ acR (vals a b c L s l) = valR a b c L s l := by
  obtain ⟨e1, e2⟩ := vals_sum hF h0 h1 h
  have : acR (vals a b c L s l) = valR a b c L s l := rat_eq _ _ _ _ MM_pos KK_pos e1
  refine ⟨?_, this⟩
  rw [← this]
  unfold acR
  rw [e2]
end Lm
