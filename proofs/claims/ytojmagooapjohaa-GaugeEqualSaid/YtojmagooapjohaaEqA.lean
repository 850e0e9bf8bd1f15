/- The unit along a path of a transformed field; mathematics, no Go.
Conditions: those written at each theorem. -/
import Derived.Test.YtojmagooapjohaaGsC
import Derived.Test.YtojmagooapjohaaGauG
import Derived.Test.YtojmagooapjohaaAlongC
import Derived.Test.YtojmagooapjohaaGzA
import Derived.Test.YtojmagooapjohaaGvA
namespace Go.Proofs.Ytojmagooapjohaa
set_option linter.unusedVariables false
set_option linter.unusedSimpArgs false
set_option maxRecDepth 1000000
open Go.RowKit
open Um Tm

theorem tr_conjU (g u : Q) (hg : U g) (hu : U u) : tr (low (mul (mul g u) (bar g))) = tr u := by
  obtain ⟨r, e⟩ : ∃ r, r = low (mul (mul g u) (bar g)) := ⟨_, rfl⟩
  rw [← e]
  have hp : 0 < (mul (mul g u) (bar g)).n := Int.mul_pos (Int.mul_pos hg.pos hu.pos) hg.pos
  have hl := low_part (mul (mul g u) (bar g))
  have hk := g_pos _ hp
  rw [← e] at hl
  have hr : 0 < r.n := by rw [e]; exact low_pos _ hp
  refine rat_eq _ _ _ _ hr hu.pos ?_
  have len := hg.len
  have hgn := hg.pos
  have ca := conj_a g u
  have cn : (mul (mul g u) (bar g)).n = g.n * g.n * u.n := by simp only [mul, bar]; grind
  rw [len] at ca
  have e1 : g.n * g.n * u.a = (Um.g (mul (mul g u) (bar g)) : Int) * r.a := by rw [← ca]; exact hl.1
  have e2 : g.n * g.n * u.n = (Um.g (mul (mul g u) (bar g)) : Int) * r.n := by rw [← cn]; exact hl.2.2.2.2
  generalize (Um.g (mul (mul g u) (bar g)) : Int) = k at hk e1 e2
  clear ca cn hl len e hp
  have hgg : 0 < g.n * g.n := Int.mul_pos hgn hgn
  generalize g.n * g.n = N at *
  have hh : k * N ≠ 0 := by
    have := Int.mul_pos hk hgg; omega
  refine Int.eq_of_mul_eq_mul_left hh ?_
  have f1 : k * N * (2 * r.a * u.n) = 2 * (k * r.a) * (N * u.n) := by grind
  have f2 : k * N * (2 * u.a * r.n) = 2 * (N * u.a) * (k * r.n) := by grind
  rw [f1, f2, e1, e2]
theorem up_tf {a b c : Int} {L G : List Q} (hF : Fl a b c L) (hG : Gg L G) {s t : Int} (h0 : 0 ≤ s) (h1 : s < a * b * c) (ht : IsStep t) : up a b c (tfL a b c L G) s t = low (mul (mul (lk G s) (up a b c L s t)) (bar (lk G (nx a b c s t)))) := by
  have hn := hF.n
  have hgn := hG.n
  have hr := nx_rng hF.z s t
  have lkT : ∀ k : Nat, k < L.length → lk (tfL a b c L G) (k : Int) = tfK a b c L G k := fun k hk => by
    have := lk_at (L := tfL a b c L G) (i := k) (by rw [tfL_len]; exact hk)
    rw [tfL_get hk] at this
    exact (Option.some.inj this).symm
  unfold up
  by_cases hp : 0 < t
  · rw [if_pos hp, if_pos hp]
    obtain ⟨i0, i1⟩ := idx_pos h0 h1 hp ht.2.2
    have ht3 := ht.2.2
    obtain ⟨k, hk⟩ : ∃ k : Nat, 3 * s + t - 1 = (k : Int) := ⟨(3 * s + t - 1).toNat, by omega⟩
    rw [hk, lkT k (by omega), tfK, ahd, show ((k / 3 : Nat) : Int) = s by omega, show ((k % 3 : Nat) : Int) + 1 = t by omega]
  · rw [if_neg hp, if_neg hp]
    obtain ⟨i0, i1⟩ := idx_neg (s := s) hF.z ht hp
    have hb := nx_back hF.z h0 h1 t
    have ht3 := ht.2.1
    have ht0 := ht.1
    generalize nx a b c s t = m at *
    obtain ⟨k, hk⟩ : ∃ k : Nat, 3 * m - t - 1 = (k : Int) := ⟨(3 * m - t - 1).toNat, by omega⟩
    rw [hk, lkT k (by omega), tfK, ahd, show ((k / 3 : Nat) : Int) = m by omega, show ((k % 3 : Nat) : Int) + 1 = -t by omega, hb]
    have um := (hG.v _ _ (lk_get (L := G) hr.1 (by omega))).1.u
    have us := (hG.v _ _ (lk_get (L := G) h0 (by omega))).1.u
    have ux := (hF.v _ _ (lk_at (L := L) (i := k) (by omega))).1.u
    rw [← Tm.low_bar _ (mul_len _ _ (mul_len _ _ um ux) (bar_len _ us)).pos, bar_mul', bar_mul', bar_bar, mul_assoc]
theorem al_tf {a b c : Int} {L G : List Q} (hF : Fl a b c L) (hG : Gg L G) : ∀ (l : List Int) (s : Int), 0 ≤ s → s < a * b * c → (∀ t ∈ l, IsStep t) → U (fm (ups a b c (tfL a b c L G) s l)) ∧ low (fm (ups a b c (tfL a b c L G) s l)) = low (mul (mul (lk G s) (fm (ups a b c L s l))) (bar (lk G (en a b c s l)))) := by
  intro l
  have hn := hF.n
  have hgn := hG.n
  have vG : ∀ s : Int, 0 ≤ s → s < a * b * c → U (lk G s) := fun s h0 h1 => (hG.v _ _ (lk_get (L := G) h0 (by omega))).1.u
  induction l with
  | nil =>
    intro s h0 h1 _
    refine ⟨one_len, ?_⟩
    show low one = low (mul (mul (lk G s) one) (bar (lk G s)))
    rw [mul_one', low_mul_bar _ (vG s h0 h1)]
    decide
  | cons t l ih =>
    intro s h0 h1 hl
    have ht := hl t List.mem_cons_self
    have hl' : ∀ u ∈ l, IsStep u := fun u hu => hl u (List.mem_cons_of_mem _ hu)
    obtain ⟨r0, r1⟩ := nx_rng hF.z s t
    obtain ⟨i1, i2⟩ := ih (nx a b c s t) r0 r1 hl'
    have hE := en_rng hF.z r0 r1 l
    have uF := fm_U _ fun x hx => (hF.ups (nx a b c s t) l r0 r1 hl' x hx).1
    have ux := (hF.up h0 h1 ht).1.u
    have ug := vG s h0 h1
    have ug' := vG _ r0 r1
    have ug'' := vG _ hE.1 hE.2
    have eu : up a b c (tfL a b c L G) s t = low (mul (mul (lk G s) (up a b c L s t)) (bar (lk G (nx a b c s t)))) := up_tf hF hG h0 h1 ht
    have uA := mul_len _ _ (mul_len _ _ ug ux) (bar_len _ ug')
    show U (fm (up a b c (tfL a b c L G) s t :: ups a b c (tfL a b c L G) (nx a b c s t) l)) ∧ low (fm (up a b c (tfL a b c L G) s t :: ups a b c (tfL a b c L G) (nx a b c s t) l)) = low (mul (mul (lk G s) (fm (up a b c L s t :: ups a b c L (nx a b c s t) l))) (bar (lk G (en a b c (nx a b c s t) l))))
    rw [fm_cons, fm_cons, eu]
    refine ⟨mul_len _ _ (low_len _ uA) i1, ?_⟩
    rw [low_mul_left _ _ uA.pos, ← low_mul_right _ _ i1.pos, i2, low_mul_right _ _ (mul_len _ _ (mul_len _ _ ug' uF) (bar_len _ ug'')).pos]
    generalize lk G s = g at *
    generalize lk G (nx a b c s t) = g' at *
    generalize lk G (en a b c (nx a b c s t) l) = g'' at *
    generalize up a b c L s t = x at *
    generalize fm (ups a b c L (nx a b c s t) l) = F at *
    have e : mul (mul (mul g x) (bar g')) (mul (mul g' F) (bar g'')) = scale (g'.n * g'.n) (mul (mul g (mul x F)) (bar g'')) := by
      rw [mul_assoc (mul g x), mul_assoc g' F, ← mul_assoc (bar g') g', bar_mul g' ug', scale_mul, one_mul', mul_scale]
      congr 1
      simp only [mul_assoc]
    rw [e, low_scale _ _ (Int.mul_pos ug'.pos ug'.pos)]
/-- along a closed path: the traces are the same, and the unit is turned by the unit of its site -/
theorem al_closed {a b c : Int} {L G : List Q} (hF : Fl a b c L) (hG : Gg L G) {s : Int} {l : List Int} (h0 : 0 ≤ s) (h1 : s < a * b * c) (hl : ∀ t ∈ l, IsStep t) (hc : en a b c s l = s) : tr (al a b c (tfL a b c L G) s l) = tr (al a b c L s l) ∧ low (mul (lk G s) (al a b c L s l)) = low (mul (al a b c (tfL a b c L G) s l) (lk G s)) := by
  have hn := hF.n
  have hgn := hG.n
  have e := (al_tf hF hG l s h0 h1 hl).2
  rw [hc] at e
  have ug : U (lk G s) := (hG.v _ _ (lk_get (L := G) h0 (by omega))).1.u
  have uF := fm_U _ fun x hx => (hF.ups s l h0 h1 hl x hx).1
  unfold al
  rw [e]
  generalize lk G s = g at *
  generalize fm (ups a b c L s l) = F at *
  refine ⟨?_, ?_⟩
  · rw [← low_mid _ _ _ uF.pos]
    exact tr_conjU g (low F) ug (low_len _ uF)
  · have uM := mul_len _ _ (mul_len _ _ ug uF) (bar_len _ ug)
    rw [low_mul_right _ _ uF.pos, low_mul_left _ _ uM.pos, mul_assoc (mul g F), bar_mul g ug, mul_scale, mul_one', low_scale _ _ (Int.mul_pos ug.pos ug.pos)]
end Go.Proofs.Ytojmagooapjohaa

/- Fields with a certificate have the same traces, and the opposite certificate: mathematics.
Conditions: those written at each theorem. -/
namespace Go.Proofs.Ytojmagooapjohaa
set_option linter.unusedVariables false
set_option linter.unusedSimpArgs false
set_option maxRecDepth 1000000
open Um Tm

theorem lin_r {P R : Q} {x y : Int} (u : Q) (h : ∀ i, i < 4 → cmp i P * x = cmp i R * y) : ∀ k, k < 4 → cmp k (mul P u) * x = cmp k (mul R u) * y := fun k hk => by
  have h0 : P.a * x = R.a * y := h 0 (by decide)
  have h1 : P.b * x = R.b * y := h 1 (by decide)
  have h2 : P.c * x = R.c * y := h 2 (by decide)
  have h3 : P.d * x = R.d * y := h 3 (by decide)
  clear h
  rcases cases4 hk with rfl | rfl | rfl | rfl <;> simp only [cmp, mul] <;> simp <;> grind
theorem lin_l {P R : Q} {x y : Int} (u : Q) (h : ∀ i, i < 4 → cmp i P * x = cmp i R * y) : ∀ k, k < 4 → cmp k (mul u P) * x = cmp k (mul u R) * y := fun k hk => by
  have h0 : P.a * x = R.a * y := h 0 (by decide)
  have h1 : P.b * x = R.b * y := h 1 (by decide)
  have h2 : P.c * x = R.c * y := h 2 (by decide)
  have h3 : P.d * x = R.d * y := h 3 (by decide)
  clear h
  rcases cases4 hk with rfl | rfl | rfl | rfl <;> simp only [cmp, mul] <;> simp <;> grind
theorem cmp_scale (k : Nat) (s : Int) (x : Q) : cmp k (scale s x) = s * cmp k x := by
  unfold cmp scale
  split
  · rfl
  · split
    · rfl
    · split <;> rfl
theorem turns_one (q : Q) : turnsP q one one := fun k _ => by rw [mul_one', one_mul']
theorem turns_mul {q u v u' v' : Q} (h : turnsP q u v) (h' : turnsP q u' v') : turnsP q (mul u u') (mul v v') := fun k hk => by
  have e1 := lin_r u' h k hk
  have e2 := lin_l v h' k hk
  rw [mul_assoc] at e1
  rw [mul_assoc v q u'] at e1
  rw [← mul_assoc v v' q] at e2
  have n1 : (mul v v').n = v.n * v'.n := rfl
  have n2 : (mul u u').n = u.n * u'.n := rfl
  rw [n1, n2]
  generalize cmp k (mul q (mul u u')) = p at *
  generalize cmp k (mul v (mul q u')) = r at *
  generalize cmp k (mul (mul v v') q) = t at *
  grind
theorem turns_bar {q u v : Q} (hu : U u) (hv : U v) (h : turnsP q u v) : turnsP q (bar u) (bar v) := fun k hk => by
  have e := lin_l (bar v) (lin_r (bar u) h) k hk
  rw [mul_assoc q u (bar u), mul_bar u hu, mul_scale, mul_one', mul_scale, cmp_scale, mul_assoc v q (bar u), ← mul_assoc (bar v) v, bar_mul v hv, scale_mul, one_mul', cmp_scale] at e
  have n1 : (bar v).n = v.n := rfl
  have n2 : (bar u).n = u.n := rfl
  rw [n1, n2]
  have hp := Int.mul_pos hu.pos hv.pos
  have e2 : u.n * v.n * (cmp k (mul q (bar u)) * v.n) = u.n * v.n * (cmp k (mul (bar v) q) * u.n) := by
    generalize cmp k (mul q (bar u)) = p at *
    generalize cmp k (mul (bar v) q) = r at *
    grind
  exact Int.eq_of_mul_eq_mul_left (by omega) e2
theorem turns_back {q u v : Q} (hu : U u) (hv : U v) (h : turnsP q u v) : turnsP (bar q) v u := fun k hk => by
  have h1 : ∀ i, i < 4 → cmp i (mul (bar u) (bar q)) * v.n = cmp i (mul (bar q) (bar v)) * u.n := fun i hi => by
    rw [← bar_mul', ← bar_mul']
    have hc : ∀ x : Q, cmp i (bar x) = cmp i x ∨ cmp i (bar x) = -(cmp i x) := fun x => by
      rcases cases4 hi with rfl | rfl | rfl | rfl
      · exact .inl rfl
      · exact .inr rfl
      · exact .inr rfl
      · exact .inr rfl
    have hb : ∀ x : Q, cmp i (bar x) = (if i = 0 then 1 else -1) * cmp i x := fun x => by
      rcases cases4 hi with rfl | rfl | rfl | rfl <;> simp [cmp, bar]
    rw [hb, hb]
    have := h i hi
    rw [Int.mul_assoc, Int.mul_assoc, this]
  have e := lin_l u (lin_r v h1) k hk
  rw [mul_assoc (bar u) (bar q) v, ← mul_assoc u (bar u), mul_bar u hu, scale_mul, one_mul', cmp_scale, mul_assoc (bar q) (bar v) v, bar_mul v hv, mul_scale, mul_one', mul_scale, cmp_scale] at e
  have hp := Int.mul_pos hu.pos hv.pos
  have e2 : u.n * v.n * (cmp k (mul (bar q) v) * u.n) = u.n * v.n * (cmp k (mul u (bar q)) * v.n) := by
    generalize cmp k (mul (bar q) v) = p at *
    generalize cmp k (mul u (bar q)) = r at *
    grind
  exact Int.eq_of_mul_eq_mul_left (by omega) e2
theorem Z4_bar {q : Q} (h : Z4 (bar q)) : Z4 q := by
  obtain ⟨h1, h2, h3, h4⟩ := h
  simp only [bar] at h1 h2 h3 h4
  exact ⟨h1, by omega, by omega, by omega⟩
theorem car_back {X Y : List Q} {q : Q} (hX : AllS X) (hY : AllS Y) (hl : Y.length = X.length) (h : carP X Y q) : carP Y X (bar q) := fun i hi =>
  turns_back (hX.lk (by omega) (by omega)).1.u (hY.lk (by omega) (by omega)).1.u (h i (by omega))
/-- where a link that is not in the tree stands among the loops -/
theorem lpK_at (S T : List Q) (tr : List Int) (k : Nat) (hk : (k : Int) ∉ tr) : ∀ n, k < n → ∃ i, i < (lpK S tr n).length ∧ lk (lpK S tr n) (i : Int) = lk S (k : Int) ∧ lk (lpK T tr n) (i : Int) = lk T (k : Int)
  | 0, h => by omega
  | n + 1, h => by
    have hl := lpK_len_eq S T tr n
    by_cases hn : (n : Int) ∈ tr
    · have hkn : k < n := by
        by_cases e : k = n
        · subst e; exact absurd hn hk
        · omega
      obtain ⟨i, h1, h2, h3⟩ := lpK_at S T tr k hk n hkn
      refine ⟨i, ?_, ?_, ?_⟩
      · unfold lpK; rw [if_pos hn]; exact h1
      · unfold lpK; rw [if_pos hn]; exact h2
      · unfold lpK; rw [if_pos hn]; exact h3
    · have app : ∀ (U : List Q) (x : Q), lk (U ++ [x]) (U.length : Int) = x := fun U x => by
        unfold lk
        rw [Int.toNat_natCast, List.getD_eq_getElem?_getD, List.getElem?_append_right (Nat.le_refl _)]
        simp
      have old : ∀ (U : List Q) (x : Q) (i : Nat), i < U.length → lk (U ++ [x]) (i : Int) = lk U (i : Int) := fun U x i hi => by
        unfold lk
        rw [Int.toNat_natCast, List.getD_eq_getElem?_getD, List.getD_eq_getElem?_getD, List.getElem?_append_left hi]
      by_cases e : k = n
      · subst e
        refine ⟨(lpK S tr k).length, ?_, ?_, ?_⟩
        · simp only [lpK]; rw [if_neg hn]; simp
        · simp only [lpK]; rw [if_neg hn]; exact app _ _
        · simp only [lpK]; rw [if_neg hn, hl]; exact app _ _
      · obtain ⟨i, h1, h2, h3⟩ := lpK_at S T tr k hk n (by omega)
        refine ⟨i, ?_, ?_, ?_⟩
        · simp only [lpK]; rw [if_neg hn]; simp; omega
        · simp only [lpK]; rw [if_neg hn, old _ _ _ h1]; exact h2
        · simp only [lpK]; rw [if_neg hn, old _ _ _ (by omega)]; exact h3
/-- a certificate carries each link of the fixed field -/
theorem car_fx {a b c : Int} {N : Nat} {L M : List Q} {q : Q} (hF : Fl a b c L) (hF' : Fl a b c M) (hS : AllS L) (hS' : AllS M) (hN : (N : Int) = a * b * c) (h : carP (lpL a b c N L) (lpL a b c N M) q) : ∀ k : Nat, k < L.length → turnsP q (lk (fxL a b c N L) (k : Int)) (lk (fxL a b c N M) (k : Int)) := fun k hk => by
  have hl : M.length = L.length := by have := hF.n; have := hF'.n; omega
  by_cases ht : (k : Int) ∈ trL a b c N
  · rw [fx_one hF hS hN _ ht, fx_one hF' hS' hN _ ht]; exact turns_one q
  · obtain ⟨i, h1, h2, h3⟩ := lpK_at (fxL a b c N L) (fxL a b c N M) (trL a b c N) k ht L.length hk
    have := h i h1
    unfold lpL at this
    rw [hl, h2, h3] at this
    exact this
theorem car_path {a b c : Int} {S T : List Q} {q : Q} (hF : Fl a b c S) (hF' : Fl a b c T) (h : ∀ k : Nat, k < S.length → turnsP q (lk S (k : Int)) (lk T (k : Int))) : ∀ (l : List Int) (s : Int), 0 ≤ s → s < a * b * c → (∀ t ∈ l, IsStep t) → turnsP q (fm (ups a b c S s l)) (fm (ups a b c T s l)) := by
  have hn := hF.n
  have hn' := hF'.n
  have key : ∀ i : Int, 0 ≤ i → i < 3 * (a * b * c) → turnsP q (lk S i) (lk T i) ∧ U (lk S i) ∧ U (lk T i) := fun i h0 h1 => by
    have := h i.toNat (by omega)
    rw [Int.toNat_of_nonneg h0] at this
    exact ⟨this, (hF.lk h0 h1).1.u, (hF'.lk h0 h1).1.u⟩
  intro l
  induction l with
  | nil => intro s _ _ _; exact turns_one q
  | cons t l ih =>
    intro s h0 h1 hl
    have ht := hl t List.mem_cons_self
    obtain ⟨r0, r1⟩ := nx_rng hF.z s t
    have i1 := ih (nx a b c s t) r0 r1 (fun u hu => hl u (List.mem_cons_of_mem _ hu))
    show turnsP q (fm (up a b c S s t :: ups a b c S (nx a b c s t) l)) (fm (up a b c T s t :: ups a b c T (nx a b c s t) l))
    rw [fm_cons, fm_cons]
    refine turns_mul ?_ i1
    have hst : t = 1 ∨ t = 2 ∨ t = 3 ∨ t = -1 ∨ t = -2 ∨ t = -3 := by
      unfold IsStep at ht; omega
    unfold up
    by_cases hp : 0 < t
    · rw [if_pos hp, if_pos hp]
      exact (key _ (by omega) (by omega)).1
    · rw [if_neg hp, if_neg hp]
      obtain ⟨k1, k2, k3⟩ := key (3 * nx a b c s t - t - 1) (by omega) (by omega)
      exact turns_bar k2 k3 k1
theorem turns_a {q u v : Q} (h : turnsP q u v) (hz : ¬ Z4 q) : u.a * v.n = v.a * u.n := by
  have e := lin_r (bar q) h 0 (by decide)
  have c1 : cmp 0 (mul (mul q u) (bar q)) = (q.a * q.a + q.b * q.b + q.c * q.c + q.d * q.d) * u.a := by simp only [cmp, mul, bar]; simp; grind
  have c2 : cmp 0 (mul (mul v q) (bar q)) = (q.a * q.a + q.b * q.b + q.c * q.c + q.d * q.d) * v.a := by simp only [cmp, mul, bar]; simp; grind
  rw [c1, c2, Int.mul_assoc, Int.mul_assoc] at e
  have hn : q.a * q.a + q.b * q.b + q.c * q.c + q.d * q.d ≠ 0 := fun h0 => hz (by
    have sq : ∀ x : Int, 0 ≤ x * x := fun x => by
      rcases Int.le_total 0 x with h | h
      · exact Int.mul_nonneg h h
      · exact Int.mul_nonneg_of_nonpos_of_nonpos h h
    have h1 := sq q.a
    have h2 := sq q.b
    have h3 := sq q.c
    have h4 := sq q.d
    have z : ∀ x : Int, x * x = 0 → x = 0 := fun x hx => by rcases Int.mul_eq_zero.1 hx with h | h <;> exact h
    exact ⟨z _ (by omega), z _ (by omega), z _ (by omega), z _ (by omega)⟩)
  exact Int.eq_of_mul_eq_mul_left hn e
theorem tr_of_a {u v : Q} (hu : 0 < u.n) (hv : 0 < v.n) (h : u.a * v.n = v.a * u.n) : tr (low u) = tr (low v) := by
  have p1 := low_part u
  have p2 := low_part v
  have q1 := low_pos u hu
  have q2 := low_pos v hv
  have g1 := g_pos u hu
  have g2 := g_pos v hv
  have e : (low u).a * (low v).n = (low v).a * (low u).n := by
    have h1 := p1.1
    have h2 := p1.2.2.2.2
    have h3 := p2.1
    have h4 := p2.2.2.2.2
    rw [h1, h2, h3, h4] at h
    generalize (Um.g u : Int) = x at *
    generalize (Um.g v : Int) = y at *
    have hp := Int.mul_pos g1 g2
    have e2 : x * y * ((low u).a * (low v).n) = x * y * ((low v).a * (low u).n) := by
      generalize (low u).a = p at *
      generalize (low v).n = r at *
      generalize (low v).a = t at *
      generalize (low u).n = z at *
      grind
    exact Int.eq_of_mul_eq_mul_left (by omega) e2
  unfold tr
  exact rat_eq _ _ _ _ q1 q2 (by
    have : 2 * (low u).a * (low v).n = 2 * ((low u).a * (low v).n) := Int.mul_assoc ..
    rw [this, e, Int.mul_assoc])
/-- fields with a certificate have the same traces along closed paths -/
theorem car_trace {a b c : Int} {N : Nat} {L M : List Q} {q : Q} (hF : Fl a b c L) (hF' : Fl a b c M) (hS : AllS L) (hS' : AllS M) (hN : (N : Int) = a * b * c) (h : carP (lpL a b c N L) (lpL a b c N M) q) (hz : ¬ Z4 q) {s : Int} {l : List Int} (h0 : 0 ≤ s) (h1 : s < a * b * c) (hl : ∀ t ∈ l, IsStep t) (hc : en a b c s l = s) : tr (al a b c L s l) = tr (al a b c M s l) := by
  have hzz := hF.z
  have hn := hF.n
  have hn' := hF'.n
  obtain ⟨-, -, p3, -⟩ := mul_rng hzz.a1 hzz.a4 hzz.b1 hzz.b4 hzz.c1 hzz.c4
  have gB : ∀ {L : List Q}, Fl a b c L → AllS L → Gg L (brL a b c N L) ∧ Fl a b c (fxL a b c N L) := fun {L} hF hS => by
    have hA := brL_all hF hS hN
    have hX := fx_Fl hF hS hN
    have := hF.n
    exact ⟨⟨by rw [brL_len]; omega, fun i x hx => ⟨(hA i x hx).1, by have := (hA i x hx).2; omega⟩⟩, (fldR_ok hX).1, (fldR_ok hX).2.1, (fldR_ok hX).2.2⟩
  obtain ⟨g1, f1⟩ := gB hF hS
  obtain ⟨g2, f2⟩ := gB hF' hS'
  have e1 := (al_closed hF g1 h0 h1 hl hc).1
  have e2 := (al_closed hF' g2 h0 h1 hl hc).1
  rw [← e1, ← e2]
  have hp := car_path f1 f2 (fun k hk => car_fx hF hF' hS hS' hN h k (by rw [fxL_len] at hk; exact hk)) l s h0 h1 hl
  have u1 := fm_U _ fun x hx => (f1.ups s l h0 h1 hl x hx).1
  have u2 := fm_U _ fun x hx => (f2.ups s l h0 h1 hl x hx).1
  exact tr_of_a u1.pos u2.pos (turns_a hp hz)
end Go.Proofs.Ytojmagooapjohaa
