/- The unit along a path of a transformed field; mathematics, no Go.
Conditions: those written at each theorem. -/
import Derived.Test.YtegeamfacajeeaaGsC
import Derived.Test.YtegeamfacajeeaaAlongC
namespace Go.Proofs.Ytegeamfacajeeaa
set_option linter.unusedVariables false
set_option linter.unusedSimpArgs false
set_option maxRecDepth 1000000
open Go.RowKit
open Um Tm

theorem tr_conjU (g u : Q) (hg : U g) (hu : U u) : tr (low (mul (mul g u) (bar g))) = tr u := by
  obtain ⟨r, e⟩ : ∃ r, r = low (mul (mul g u) (bar g)) := ⟨_, rfl⟩
  rw [← e]
  have hp : 0 < (mul (mul g u) (bar g)).n := Int.mul_pos (Int.mul_pos hg.pos hu.pos) hg.pos
  have hl := low_part (mul (mul g u) (bar g))
  have hk := g_pos _ hp
  rw [← e] at hl
  have hr : 0 < r.n := by rw [e]; exact low_pos _ hp
  refine rat_eq _ _ _ _ hr hu.pos ?_
  have len := hg.len
  have hgn := hg.pos
  have ca := conj_a g u
  have cn : (mul (mul g u) (bar g)).n = g.n * g.n * u.n := by simp only [mul, bar]; grind
  rw [len] at ca
  have e1 : g.n * g.n * u.a = (Um.g (mul (mul g u) (bar g)) : Int) * r.a := by rw [← ca]; exact hl.1
  have e2 : g.n * g.n * u.n = (Um.g (mul (mul g u) (bar g)) : Int) * r.n := by rw [← cn]; exact hl.2.2.2.2
  generalize (Um.g (mul (mul g u) (bar g)) : Int) = k at hk e1 e2
  clear ca cn hl len e hp
  have hgg : 0 < g.n * g.n := Int.mul_pos hgn hgn
  generalize g.n * g.n = N at *
  have hh : k * N ≠ 0 := by
    have := Int.mul_pos hk hgg; omega
  refine Int.eq_of_mul_eq_mul_left hh ?_
  have f1 : k * N * (2 * r.a * u.n) = 2 * (k * r.a) * (N * u.n) := by grind
  have f2 : k * N * (2 * u.a * r.n) = 2 * (N * u.a) * (k * r.n) := by grind
  rw [f1, f2, e1, e2]
theorem up_tf {a b c : Int} {L G : List Q} (hF : Fl a b c L) (hG : Gg L G) {s t : Int} (h0 : 0 ≤ s) (h1 : s < a * b * c) (ht : IsStep t) : up a b c (tfL a b c L G) s t = low (mul (mul (lk G s) (up a b c L s t)) (bar (lk G (nx a b c s t)))) := by
  have hn := hF.n
  have hgn := hG.n
  have hr := nx_rng hF.z s t
  have lkT : ∀ k : Nat, k < L.length → lk (tfL a b c L G) (k : Int) = tfK a b c L G k := fun k hk => by
    have := lk_at (L := tfL a b c L G) (i := k) (by rw [tfL_len]; exact hk)
    rw [tfL_get hk] at this
    exact (Option.some.inj this).symm
  unfold up
  by_cases hp : 0 < t
  · rw [if_pos hp, if_pos hp]
    obtain ⟨i0, i1⟩ := idx_pos h0 h1 hp ht.2.2
    have ht3 := ht.2.2
    obtain ⟨k, hk⟩ : ∃ k : Nat, 3 * s + t - 1 = (k : Int) := ⟨(3 * s + t - 1).toNat, by omega⟩
    rw [hk, lkT k (by omega), tfK, ahd, show ((k / 3 : Nat) : Int) = s by omega, show ((k % 3 : Nat) : Int) + 1 = t by omega]
  · rw [if_neg hp, if_neg hp]
    obtain ⟨i0, i1⟩ := idx_neg (s := s) hF.z ht hp
    have hb := nx_back hF.z h0 h1 t
    have ht3 := ht.2.1
    have ht0 := ht.1
    generalize nx a b c s t = m at *
    obtain ⟨k, hk⟩ : ∃ k : Nat, 3 * m - t - 1 = (k : Int) := ⟨(3 * m - t - 1).toNat, by omega⟩
    rw [hk, lkT k (by omega), tfK, ahd, show ((k / 3 : Nat) : Int) = m by omega, show ((k % 3 : Nat) : Int) + 1 = -t by omega, hb]
    have um := (hG.v _ _ (lk_get (L := G) hr.1 (by omega))).1.u
    have us := (hG.v _ _ (lk_get (L := G) h0 (by omega))).1.u
    have ux := (hF.v _ _ (lk_at (L := L) (i := k) (by omega))).1.u
    rw [← Tm.low_bar _ (mul_len _ _ (mul_len _ _ um ux) (bar_len _ us)).pos, bar_mul', bar_mul', bar_bar, mul_assoc]
theorem al_tf {a b c : Int} {L G : List Q} (hF : Fl a b c L) (hG : Gg L G) : ∀ (l : List Int) (s : Int), 0 ≤ s → s < a * b * c → (∀ t ∈ l, IsStep t) → U (fm (ups a b c (tfL a b c L G) s l)) ∧ low (fm (ups a b c (tfL a b c L G) s l)) = low (mul (mul (lk G s) (fm (ups a b c L s l))) (bar (lk G (en a b c s l)))) := by
  intro l
  have hn := hF.n
  have hgn := hG.n
  have vG : ∀ s : Int, 0 ≤ s → s < a * b * c → U (lk G s) := fun s h0 h1 => (hG.v _ _ (lk_get (L := G) h0 (by omega))).1.u
  induction l with
  | nil =>
    intro s h0 h1 _
    refine ⟨one_len, ?_⟩
    show low one = low (mul (mul (lk G s) one) (bar (lk G s)))
    rw [mul_one', low_mul_bar _ (vG s h0 h1)]
    decide
  | cons t l ih =>
    intro s h0 h1 hl
    have ht := hl t List.mem_cons_self
    have hl' : ∀ u ∈ l, IsStep u := fun u hu => hl u (List.mem_cons_of_mem _ hu)
    obtain ⟨r0, r1⟩ := nx_rng hF.z s t
    obtain ⟨i1, i2⟩ := ih (nx a b c s t) r0 r1 hl'
    have hE := en_rng hF.z r0 r1 l
    have uF := fm_U _ fun x hx => (hF.ups (nx a b c s t) l r0 r1 hl' x hx).1
    have ux := (hF.up h0 h1 ht).1.u
    have ug := vG s h0 h1
    have ug' := vG _ r0 r1
    have ug'' := vG _ hE.1 hE.2
    have eu : up a b c (tfL a b c L G) s t = low (mul (mul (lk G s) (up a b c L s t)) (bar (lk G (nx a b c s t)))) := up_tf hF hG h0 h1 ht
    have uA := mul_len _ _ (mul_len _ _ ug ux) (bar_len _ ug')
    show U (fm (up a b c (tfL a b c L G) s t :: ups a b c (tfL a b c L G) (nx a b c s t) l)) ∧ low (fm (up a b c (tfL a b c L G) s t :: ups a b c (tfL a b c L G) (nx a b c s t) l)) = low (mul (mul (lk G s) (fm (up a b c L s t :: ups a b c L (nx a b c s t) l))) (bar (lk G (en a b c (nx a b c s t) l))))
    rw [fm_cons, fm_cons, eu]
    refine ⟨mul_len _ _ (low_len _ uA) i1, ?_⟩
    rw [low_mul_left _ _ uA.pos, ← low_mul_right _ _ i1.pos, i2, low_mul_right _ _ (mul_len _ _ (mul_len _ _ ug' uF) (bar_len _ ug'')).pos]
    generalize lk G s = g at *
    generalize lk G (nx a b c s t) = g' at *
    generalize lk G (en a b c (nx a b c s t) l) = g'' at *
    generalize up a b c L s t = x at *
    generalize fm (ups a b c L (nx a b c s t) l) = F at *
    have e : mul (mul (mul g x) (bar g')) (mul (mul g' F) (bar g'')) = scale (g'.n * g'.n) (mul (mul g (mul x F)) (bar g'')) := by
      rw [mul_assoc (mul g x), mul_assoc g' F, ← mul_assoc (bar g') g', bar_mul g' ug', scale_mul, one_mul', mul_scale]
      congr 1
      simp only [mul_assoc]
    rw [e, low_scale _ _ (Int.mul_pos ug'.pos ug'.pos)]
/-- along a closed path: the traces are the same, and the unit is turned by the unit of its site -/
theorem al_closed {a b c : Int} {L G : List Q} (hF : Fl a b c L) (hG : Gg L G) {s : Int} {l : List Int} (h0 : 0 ≤ s) (h1 : s < a * b * c) (hl : ∀ t ∈ l, IsStep t) (hc : en a b c s l = s) : tr (al a b c (tfL a b c L G) s l) = tr (al a b c L s l) ∧ low (mul (lk G s) (al a b c L s l)) = low (mul (al a b c (tfL a b c L G) s l) (lk G s)) := by
  have hn := hF.n
  have hgn := hG.n
  have e := (al_tf hF hG l s h0 h1 hl).2
  rw [hc] at e
  have ug : U (lk G s) := (hG.v _ _ (lk_get (L := G) h0 (by omega))).1.u
  have uF := fm_U _ fun x hx => (hF.ups s l h0 h1 hl x hx).1
  unfold al
  rw [e]
  generalize lk G s = g at *
  generalize fm (ups a b c L s l) = F at *
  refine ⟨?_, ?_⟩
  · rw [← low_mid _ _ _ uF.pos]
    exact tr_conjU g (low F) ug (low_len _ uF)
  · have uM := mul_len _ _ (mul_len _ _ ug uF) (bar_len _ ug)
    rw [low_mul_right _ _ uF.pos, low_mul_left _ _ uM.pos, mul_assoc (mul g F), bar_mul g ug, mul_scale, mul_one', low_scale _ _ (Int.mul_pos ug.pos ug.pos)]
end Go.Proofs.Ytegeamfacajeeaa
