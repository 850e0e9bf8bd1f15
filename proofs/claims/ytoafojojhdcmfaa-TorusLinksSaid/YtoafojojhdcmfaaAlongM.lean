/- Plain mathematics of units along paths: products of few links keep the limit, a path from its end has the inverse, a reduced path the same unit, shifted and turned fields; no Go.
Conditions: none. -/
import Derived.Test.YtoafojojhdcmfaaWalkM
set_option autoImplicit false
namespace Tm
set_option linter.unusedVariables false
set_option linter.unusedSimpArgs false
open Um

/-! ### Products without a limit -/
def fm (l : List Q) : Q := l.foldl mul one
theorem foldl_mul (x : Q) (l : List Q) : l.foldl mul x = mul x (fm l) := by
  unfold fm
  induction l generalizing x with
  | nil => exact (mul_one' x).symm
  | cons y l ih =>
    simp only [List.foldl_cons]
    rw [ih (mul x y), ih (mul one y), one_mul', mul_assoc]
theorem fm_app (l m : List Q) : fm (l ++ m) = mul (fm l) (fm m) := by
  rw [fm, List.foldl_append, ← fm, foldl_mul]
theorem fm_cons (x : Q) (l : List Q) : fm (x :: l) = mul x (fm l) := by
  rw [fm, List.foldl_cons, one_mul', foldl_mul]
theorem fm_one (x : Q) : fm [x] = x := by rw [fm_cons, show fm [] = one from rfl, mul_one']
theorem bar_mul' (x y : Q) : bar (mul x y) = mul (bar y) (bar x) := by
  simp only [bar, mul, Q.mk.injEq]
  refine ⟨?_, ?_, ?_, ?_, ?_⟩ <;> grind
theorem bar_bar (x : Q) : bar (bar x) = x := by cases x; simp [bar]
theorem bar_one : bar one = one := by decide
theorem fm_bar (l : List Q) : fm (l.reverse.map bar) = bar (fm l) := by
  induction l with
  | nil => exact bar_one.symm
  | cons x l ih => rw [List.reverse_cons, List.map_append, fm_app, ih, fm_cons, bar_mul', List.map_cons, List.map_nil, fm_one]
theorem low_bar (x : Q) (h : 0 < x.n) : low (bar x) = bar (low x) := by
  obtain ⟨-, hb, hc, hd, -⟩ := g_dvd x
  unfold low
  rw [g_bar]
  simp only [bar, Q.mk.injEq, true_and, and_true]
  exact ⟨Int.neg_ediv_of_dvd hb, Int.neg_ediv_of_dvd hc, Int.neg_ediv_of_dvd hd⟩
theorem fm_U (l : List Q) (h : ∀ x ∈ l, V x) : U (fm l) := by
  induction l with
  | nil => exact one_len
  | cons x l ih => rw [fm_cons]; exact mul_len _ _ (h x (List.mem_cons_self ..)).u (ih fun y hy => h y (List.mem_cons_of_mem _ hy))

/-- few links: the limit is never reached -/
theorem prod_few (l : List Q) (p : Q) (m : Nat) (hp : V p) (hpn : p.n ≤ 5 ^ m) (hl : ∀ x ∈ l, V x ∧ x.n ≤ 5) (h : m + l.length ≤ 8) : prodFrom p l = (low (mul p (fm l)), 0) := by
  induction l generalizing p m with
  | nil => simp only [prodFrom, show fm [] = one from rfl, mul_one', hp.low]
  | cons x l ih =>
    obtain ⟨hx, hx5⟩ := hl x (List.mem_cons_self ..)
    have hu := mul_len p x hp.u hx.u
    have h1 : (mul p x).n ≤ 5 ^ (m + 1) := by
      have := Int.mul_le_mul hpn hx5 (by have := hx.u.pos; omega) (by exact Int.pow_nonneg (by decide))
      simpa [mul, Int.pow_succ] using this
    have h2 : (low (mul p x)).n ≤ 5 ^ (m + 1) := Int.le_trans (low_le _ hu.pos) h1
    have hm : m + 1 ≤ 8 := by simp at h; omega
    have h3 : (5 : Int) ^ (m + 1) ≤ 390625 := by
      have : m + 1 = 1 ∨ m + 1 = 2 ∨ m + 1 = 3 ∨ m + 1 = 4 ∨ m + 1 = 5 ∨ m + 1 = 6 ∨ m + 1 = 7 ∨ m + 1 = 8 := by omega
      rcases this with h | h | h | h | h | h | h | h <;> rw [h] <;> decide
    have h4 : ¬ 1048576 < (low (mul p x)).n := by omega
    simp only [prodFrom]
    rw [if_neg h4, ih _ (m + 1) (V.of_low hu (by omega)) h2 (fun y hy => hl y (List.mem_cons_of_mem _ hy)) (by simp at h; omega), fm_cons, low_mul_left _ _ hu.pos, mul_assoc]
theorem prod_links (l : List Q) (hl : ∀ x ∈ l, V x ∧ x.n ≤ 5) (h : l.length ≤ 8) : prodFrom one l = (low (fm l), 0) := by
  rw [prod_few l one 0 V.one (by decide) hl (by omega), one_mul']
theorem few_le (l : List Q) (hl : ∀ x ∈ l, V x ∧ x.n ≤ 5) (h : l.length ≤ 8) : (fm l).n ≤ 390625 := by
  have key : ∀ (l : List Q), (∀ x ∈ l, V x ∧ x.n ≤ 5) → 0 < (fm l).n ∧ (fm l).n ≤ 5 ^ l.length := by
    intro l
    induction l with
    | nil => intro _; exact ⟨by decide, by decide⟩
    | cons x l ih =>
      intro hl
      obtain ⟨hx, hx5⟩ := hl x (List.mem_cons_self ..)
      obtain ⟨i1, i2⟩ := ih fun y hy => hl y (List.mem_cons_of_mem _ hy)
      rw [fm_cons]
      refine ⟨Int.mul_pos hx.u.pos i1, ?_⟩
      have := Int.mul_le_mul hx5 i2 (by omega) (by decide)
      rw [List.length_cons, Int.pow_succ, Int.mul_comm]
      simpa [mul] using this
  have h1 := (key l hl).2
  have h3 : (5 : Int) ^ l.length ≤ 390625 := by
    have : l.length = 0 ∨ l.length = 1 ∨ l.length = 2 ∨ l.length = 3 ∨ l.length = 4 ∨ l.length = 5 ∨ l.length = 6 ∨ l.length = 7 ∨ l.length = 8 := by omega
    rcases this with h | h | h | h | h | h | h | h | h <;> rw [h] <;> decide
  omega
theorem few_V (l : List Q) (hl : ∀ x ∈ l, V x ∧ x.n ≤ 5) (h : l.length ≤ 8) : V (low (fm l)) := by
  have hu := fm_U l fun x hx => (hl x hx).1
  have := few_le l hl h
  have := low_le _ hu.pos
  exact V.of_low hu (by omega)

/-! ### Units along paths -/
/-- the link with a number -/
def lk (L : List Q) (i : Int) : Q := L.getD i.toNat one
theorem lk_get {L : List Q} {i : Int} (h0 : 0 ≤ i) (h1 : i < (L.length : Int)) : L[i.toNat]? = some (lk L i) := by
  have h : i.toNat < L.length := by omega
  rw [lk, List.getD_eq_getElem?_getD, List.getElem?_eq_getElem h]
  rfl
/-- the unit of a step -/
def up (a b c : Int) (L : List Q) (s t : Int) : Q := if 0 < t then lk L (3 * s + t - 1) else bar (lk L (3 * nx a b c s t - t - 1))
def ups (a b c : Int) (L : List Q) : Int → List Int → List Q
  | _, [] => []
  | s, t :: l => up a b c L s t :: ups a b c L (nx a b c s t) l
theorem ups_len (a b c : Int) (L : List Q) (s : Int) (l : List Int) : (ups a b c L s l).length = l.length := by
  induction l generalizing s with
  | nil => rfl
  | cons t l ih => simp [ups, ih]
theorem ups_app (a b c : Int) (L : List Q) (s : Int) (l m : List Int) : ups a b c L s (l ++ m) = ups a b c L s l ++ ups a b c L (en a b c s l) m := by
  induction l generalizing s with
  | nil => rfl
  | cons t l ih => simp only [List.cons_append, ups, ih]; rfl
theorem ups_take (a b c : Int) (L : List Q) (s : Int) (l : List Int) (k : Nat) (hk : k < l.length) : ups a b c L s (l.take (k + 1)) = ups a b c L s (l.take k) ++ [up a b c L (en a b c s (l.take k)) l[k]] := by
  rw [List.take_succ_eq_append_getElem hk, ups_app]
  rfl
/-- a field's links -/
structure Fl (a b c : Int) (L : List Q) : Prop where
  z : Sz a b c
  n : (L.length : Int) = 3 * (a * b * c)
  v : ∀ (i : Nat) (x : Q), L[i]? = some x → V x ∧ x.n ≤ 5
theorem Fl.lk {a b c : Int} {L : List Q} (h : Fl a b c L) {i : Int} (h0 : 0 ≤ i) (h1 : i < 3 * (a * b * c)) : V (lk L i) ∧ (lk L i).n ≤ 5 := h.v _ _ (lk_get h0 (by rw [h.n]; exact h1))
theorem idx_pos {a b c s t : Int} (h0 : 0 ≤ s) (h1 : s < a * b * c) (ht : 0 < t) (h3 : t ≤ 3) : 0 ≤ 3 * s + t - 1 ∧ 3 * s + t - 1 < 3 * (a * b * c) := by omega
theorem idx_neg {a b c s t : Int} (h : Sz a b c) (ht : IsStep t) (hn : ¬ 0 < t) : 0 ≤ 3 * nx a b c s t - t - 1 ∧ 3 * nx a b c s t - t - 1 < 3 * (a * b * c) := by
  have h1 := nx_rng h s t
  obtain ⟨t0, t1, t2⟩ := ht
  omega
theorem Fl.up {a b c : Int} {L : List Q} (h : Fl a b c L) {s t : Int} (h0 : 0 ≤ s) (h1 : s < a * b * c) (ht : IsStep t) : V (up a b c L s t) ∧ (up a b c L s t).n ≤ 5 := by
  unfold Tm.up
  split
  · rename_i hp
    have := idx_pos h0 h1 hp ht.2.2
    exact h.lk this.1 this.2
  · rename_i hn
    have := idx_neg (s := s) h.z ht hn
    have := h.lk this.1 this.2
    exact ⟨this.1.bar, this.2⟩
theorem Fl.ups {a b c : Int} {L : List Q} (h : Fl a b c L) (s : Int) (l : List Int) (h0 : 0 ≤ s) (h1 : s < a * b * c) (hl : ∀ t ∈ l, IsStep t) : ∀ x ∈ ups a b c L s l, V x ∧ x.n ≤ 5 := by
  induction l generalizing s with
  | nil => intro x hx; cases hx
  | cons t l ih =>
    intro x hx
    simp only [Tm.ups, List.mem_cons] at hx
    rcases hx with rfl | hx
    · exact h.up h0 h1 (hl t (List.mem_cons_self ..))
    · have hr := nx_rng h.z s t
      exact ih _ hr.1 hr.2 (fun u hu => hl u (List.mem_cons_of_mem _ hu)) x hx

/-- the unit along a path -/
def al (a b c : Int) (L : List Q) (s : Int) (l : List Int) : Q := low (fm (ups a b c L s l))
theorem Fl.al {a b c : Int} {L : List Q} (h : Fl a b c L) (s : Int) (l : List Int) (h0 : 0 ≤ s) (h1 : s < a * b * c) (hl : ∀ t ∈ l, IsStep t) (h8 : l.length ≤ 8) : prodFrom one (Tm.ups a b c L s l) = (Tm.al a b c L s l, 0) ∧ V (Tm.al a b c L s l) :=
  ⟨prod_links _ (h.ups s l h0 h1 hl) (by rw [ups_len]; exact h8), few_V _ (h.ups s l h0 h1 hl) (by rw [ups_len]; exact h8)⟩

/-! ### From the end -/
theorem up_back {a b c s t : Int} (h : Sz a b c) (L : List Q) (h0 : 0 ≤ s) (h1 : s < a * b * c) (ht : IsStep t) : up a b c L (nx a b c s t) (-t) = bar (up a b c L s t) := by
  unfold up
  obtain ⟨t0, -, -⟩ := ht
  by_cases hp : 0 < t
  · rw [if_pos hp, if_neg (by omega), nx_back h h0 h1]
    congr 2; omega
  · rw [if_neg hp, if_pos (by omega), bar_bar]
    congr 1
theorem opp_cons (t : Int) (l : List Int) : opp (t :: l) = opp l ++ [-t] := by simp [opp]
theorem en_app (a b c s : Int) (l m : List Int) : en a b c s (l ++ m) = en a b c (en a b c s l) m := by simp [en, List.foldl_append]
theorem en_opp {a b c s : Int} (h : Sz a b c) (h0 : 0 ≤ s) (h1 : s < a * b * c) (l : List Int) : en a b c (en a b c s l) (opp l) = s := by
  induction l generalizing s with
  | nil => rfl
  | cons t l ih =>
    have hr := nx_rng h s t
    rw [opp_cons, en_app]
    have e : en a b c s (t :: l) = en a b c (nx a b c s t) l := rfl
    rw [e, ih hr.1 hr.2]
    exact nx_back h h0 h1 t
theorem ups_opp {a b c s : Int} (h : Sz a b c) (L : List Q) (h0 : 0 ≤ s) (h1 : s < a * b * c) (l : List Int) (hl : ∀ t ∈ l, IsStep t) : ups a b c L (en a b c s l) (opp l) = (ups a b c L s l).reverse.map bar := by
  induction l generalizing s with
  | nil => rfl
  | cons t l ih =>
    have hr := nx_rng h s t
    have e : en a b c s (t :: l) = en a b c (nx a b c s t) l := rfl
    rw [opp_cons, ups_app, e, ih hr.1 hr.2 (fun u hu => hl u (List.mem_cons_of_mem _ hu)), en_opp h hr.1 hr.2]
    simp only [ups, List.reverse_cons, List.map_append, List.map_cons, List.map_nil]
    rw [up_back h L h0 h1 (hl t (List.mem_cons_self ..))]
theorem al_opp {a b c s : Int} {L : List Q} (h : Fl a b c L) (h0 : 0 ≤ s) (h1 : s < a * b * c) (l : List Int) (hl : ∀ t ∈ l, IsStep t) : al a b c L (en a b c s l) (opp l) = bar (al a b c L s l) := by
  unfold al
  rw [ups_opp h.z L h0 h1 l hl, fm_bar, low_bar _ (fm_U _ fun x hx => (h.ups s l h0 h1 hl x hx).1).pos]

/-! ### Reduced paths -/
theorem fm_cancel (u : List Q) (x : Q) (hx : U x) (m : List Q) : low (fm (u ++ [x, bar x] ++ m)) = low (fm (u ++ m)) := by
  have e : fm [x, bar x] = scale (x.n * x.n) one := by rw [fm_cons, fm_one, mul_bar x hx]
  rw [fm_app, fm_app, fm_app, e, mul_scale, mul_one', scale_mul, low_scale _ _ (Int.mul_pos hx.pos hx.pos)]
theorem redS_up {a b c s : Int} {L : List Q} (h : Fl a b c L) (h0 : 0 ≤ s) (h1 : s < a * b * c) (l : List Int) (hl : ∀ t ∈ l, IsStep t) : al a b c L s (redS l).reverse = al a b c L s l ∧ en a b c s (redS l).reverse = en a b c s l := by
  revert hl
  refine snoc_ind (p := fun l => (∀ t ∈ l, IsStep t) → al a b c L s (redS l).reverse = al a b c L s l ∧ en a b c s (redS l).reverse = en a b c s l) (fun _ => ⟨rfl, rfl⟩) (fun l t ih hl => ?_) l
  have hl' : ∀ u ∈ l, IsStep u := fun u hu => hl u (List.mem_append_left _ hu)
  have ht : IsStep t := hl t (List.mem_append_right _ (List.mem_singleton.2 rfl))
  obtain ⟨i1, i2⟩ := ih hl'
  have e : redS (l ++ [t]) = push (redS l) t := by unfold redS; rw [List.foldl_append]; rfl
  have hst : ∀ u ∈ (redS l).reverse, IsStep u := fun u hu => red_steps hl' u hu
  have hU : ∀ m : List Int, (∀ u ∈ m, IsStep u) → U (fm (ups a b c L s m)) := fun m hm => fm_U _ fun x hx => (h.ups s m h0 h1 hm x hx).1
  have key : ∀ m, (∀ u ∈ m, IsStep u) → al a b c L s m = al a b c L s l → en a b c s m = en a b c s l → al a b c L s (m ++ [t]) = al a b c L s (l ++ [t]) ∧ en a b c s (m ++ [t]) = en a b c s (l ++ [t]) := by
    intro m hm k1 k2
    refine ⟨?_, by rw [en_app, en_app, k2]⟩
    unfold al at k1 ⊢
    rw [ups_app, ups_app, fm_app, fm_app, k2, ← low_mul_left _ _ (hU m hm).pos, k1, low_mul_left _ _ (hU l hl').pos]
  obtain ⟨k1, k2⟩ := key _ hst i1 i2
  rw [e]
  cases hr : redS l with
  | nil => rw [hr] at k1 k2; exact ⟨k1, k2⟩
  | cons x st =>
    rw [hr] at k1 k2 hst
    simp only [push]
    split
    · rename_i hx
      subst hx
      have hx : IsStep (-t) := hst _ (by simp)
      have hst' : ∀ u ∈ st.reverse, IsStep u := fun u hu => hst u (by simp at hu; simp [hu])
      have hen := en_rng h.z h0 h1 st.reverse
      have e1 : (-t :: st).reverse ++ [t] = st.reverse ++ [-t, t] := by simp
      rw [e1] at k1 k2
      have hb := up_back h.z L hen.1 hen.2 hx
      rw [Int.neg_neg] at hb
      have e2 : ups a b c L s (st.reverse ++ [-t, t]) = ups a b c L s st.reverse ++ [up a b c L (en a b c s st.reverse) (-t), bar (up a b c L (en a b c s st.reverse) (-t))] ++ [] := by
        rw [ups_app, List.append_nil]
        simp only [ups, hb]
      have e3 : en a b c s (st.reverse ++ [-t, t]) = en a b c s st.reverse := by
        rw [en_app]
        have := nx_back h.z hen.1 hen.2 (-t)
        rw [Int.neg_neg] at this
        exact this
      refine ⟨?_, by rw [← k2, e3]⟩
      rw [← k1]
      unfold al
      rw [e2, fm_cancel _ _ (h.up hen.1 hen.2 hx).1.u, List.append_nil]
    · have e1 : (t :: x :: st).reverse = (x :: st).reverse ++ [t] := by simp
      rw [e1]
      exact ⟨k1, k2⟩
theorem al_red {a b c s : Int} {L : List Q} (h : Fl a b c L) (h0 : 0 ≤ s) (h1 : s < a * b * c) (l : List Int) (hl : ∀ t ∈ l, IsStep t) : al a b c L s (red l) = al a b c L s l ∧ en a b c s (red l) = en a b c s l := redS_up h h0 h1 l hl

/-! ### Shifted fields -/
/-- where a shift brings a site -/
def sh (a b c x y z s : Int) : Int := site a b c (s % a + x) (s / a % b + y) (s / a / b + z)
theorem sh_rng {a b c : Int} (h : Sz a b c) (x y z s : Int) : 0 ≤ sh a b c x y z s ∧ sh a b c x y z s < a * b * c := site_rng h _ _ _
theorem sh_site {a b c : Int} (h : Sz a b c) (x y z u v t : Int) : sh a b c x y z (site a b c u v t) = site a b c (u + x) (v + y) (t + z) := by
  unfold sh
  rw [px_site h, py_site h, pz_site h, site_add]
theorem sh_back {a b c s : Int} (h : Sz a b c) (h0 : 0 ≤ s) (h1 : s < a * b * c) (x y z : Int) : sh a b c (-x) (-y) (-z) (sh a b c x y z s) = s := by
  rw [sh, sh]
  rw [px_site h, py_site h, pz_site h, site_add]
  rw [show s % a + x + -x = s % a by omega, show s / a % b + y + -y = s / a % b by omega, show s / a / b + z + -z = s / a / b by omega]
  exact site_place h h0 h1
theorem sh_nx {a b c : Int} (h : Sz a b c) (x y z s t : Int) : sh a b c x y z (nx a b c s t) = nx a b c (sh a b c x y z s) t := by
  rw [nx, sh_site h, sh, nx_site h]
  rw [show s % a + dlt 1 t + x = s % a + x + dlt 1 t by omega, show s / a % b + dlt 2 t + y = s / a % b + y + dlt 2 t by omega, show s / a / b + dlt 3 t + z = s / a / b + z + dlt 3 t by omega]
theorem sh_en {a b c : Int} (h : Sz a b c) (x y z s : Int) (l : List Int) : sh a b c x y z (en a b c s l) = en a b c (sh a b c x y z s) l := by
  induction l generalizing s with
  | nil => rfl
  | cons t l ih => exact (ih (nx a b c s t)).trans (by rw [sh_nx h]; rfl)
/-- the links of the shifted field -/
structure Shd (a b c x y z : Int) (L G : List Q) : Prop where
  n : G.length = L.length
  g : ∀ s d : Int, 0 ≤ s → s < a * b * c → 0 ≤ d → d < 3 → lk G (3 * sh a b c x y z s + d) = lk L (3 * s + d)
theorem Shd.up {a b c x y z : Int} {L G : List Q} (k : Shd a b c x y z L G) (h : Sz a b c) {s t : Int} (h0 : 0 ≤ s) (h1 : s < a * b * c) (ht : IsStep t) : Tm.up a b c G (sh a b c x y z s) t = Tm.up a b c L s t := by
  unfold Tm.up
  obtain ⟨t0, t1, t2⟩ := ht
  by_cases hp : 0 < t
  · rw [if_pos hp, if_pos hp]
    have := k.g s (t - 1) h0 h1 (by omega) (by omega)
    rwa [show 3 * sh a b c x y z s + (t - 1) = 3 * sh a b c x y z s + t - 1 by omega, show 3 * s + (t - 1) = 3 * s + t - 1 by omega] at this
  · rw [if_neg hp, if_neg hp, ← sh_nx h]
    have hr := nx_rng h s t
    have := k.g (nx a b c s t) (-t - 1) hr.1 hr.2 (by omega) (by omega)
    rw [show 3 * sh a b c x y z (nx a b c s t) + (-t - 1) = 3 * sh a b c x y z (nx a b c s t) - t - 1 by omega, show 3 * nx a b c s t + (-t - 1) = 3 * nx a b c s t - t - 1 by omega] at this
    rw [this]
theorem Shd.ups {a b c x y z : Int} {L G : List Q} (k : Shd a b c x y z L G) (h : Sz a b c) {s : Int} (h0 : 0 ≤ s) (h1 : s < a * b * c) (l : List Int) (hl : ∀ t ∈ l, IsStep t) : Tm.ups a b c G (sh a b c x y z s) l = Tm.ups a b c L s l := by
  induction l generalizing s with
  | nil => rfl
  | cons t l ih =>
    have hr := nx_rng h s t
    simp only [Tm.ups]
    rw [k.up h h0 h1 (hl t (List.mem_cons_self ..)), ← sh_nx h, ih hr.1 hr.2 fun u hu => hl u (List.mem_cons_of_mem _ hu)]
theorem Shd.al {a b c x y z : Int} {L G : List Q} (k : Shd a b c x y z L G) (h : Sz a b c) {s : Int} (h0 : 0 ≤ s) (h1 : s < a * b * c) (l : List Int) (hl : ∀ t ∈ l, IsStep t) : Tm.al a b c G (sh a b c x y z s) l = Tm.al a b c L s l := by
  unfold Tm.al
  rw [k.ups h h0 h1 l hl]
end Tm
