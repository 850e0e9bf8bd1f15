/- Plain mathematics of the values of plain forms, sums and products of sums of loops; no Go.
Conditions: none. -/
import Derived.Test.YtjidbajcnomceaaLtM
set_option autoImplicit false
namespace Lm
set_option linter.unusedVariables false
set_option linter.unusedSimpArgs false
open Tm Um

/-- terms on the way to a plain form, whose paths are closed -/
structure Raw (a b c s : Int) (R : List Trm) : Prop where
  st : ∀ t ∈ R, (∀ x ∈ t.2, IsStep x) ∧ t.2.length ≤ 16
  cl : ∀ t ∈ R, en a b c s t.2 = s
  co : Cof 1000000 R
  n : R.length ≤ 4000
theorem Val.raw {a b c s : Int} {l : List Trm} (h : Val a b c s l) : Raw a b c s l :=
  ⟨fun t ht => ⟨(h.st t ht).1, by have := (h.st t ht).2; omega⟩, h.cl, fun t ht => by have := h.co t ht; omega, by have := h.n; omega⟩
theorem Val.app {a b c s : Int} {l m : List Trm} (h : Val a b c s l) (k : Val a b c s m) : Raw a b c s (l ++ m) := by
  refine ⟨fun t ht => ?_, fun t ht => ?_, fun t ht => ?_, by rw [List.length_append]; have := h.n; have := k.n; omega⟩
  all_goals rcases List.mem_append.1 ht with e | e
  · exact h.raw.st t e
  · exact k.raw.st t e
  · exact h.cl t e
  · exact k.cl t e
  · exact h.raw.co t e
  · exact k.raw.co t e
theorem Raw.plain {a b c s : Int} {L : List Q} (hF : Fl a b c L) (h0 : 0 ≤ s) (h1 : s < a * b * c) {R N : List Trm} (h : Raw a b c s R) (hN : N = plT (R.map fun t => (t.1, plL t.2))) (st : ∀ t ∈ N, (∀ x ∈ t.2, IsStep x) ∧ t.2.length ≤ 8) (co : Cof 1000 N) (n : N.length ≤ 40) : Val a b c s N ∧ SK (Tp a b c L s) N = SK (Tp a b c L s) R := by
  subst hN
  refine ⟨⟨st, fun t ht => ?_, co, n⟩, ?_⟩
  · obtain ⟨u, hu, e⟩ := plT_path ht
    obtain ⟨v, hv, rfl⟩ := List.mem_map.1 hu
    rw [e]
    exact en_pl hF h0 h1 (h.st v hv).1 (h.cl v hv)
  · rw [plT_sum _ _ 1000000 (by omega) (by rw [List.length_map]; have := h.n; omega) (fun t ht => by
      obtain ⟨v, hv, rfl⟩ := List.mem_map.1 ht
      exact h.co v hv)]
    unfold SK
    rw [List.map_map]
    congr 1
    refine List.map_congr_left fun t ht => ?_
    simp only [Function.comp]
    rw [Tp_pl hF h0 h1 (h.st t ht).1 (h.st t ht).2 (h.cl t ht)]

/-! ### products -/
def prs (u v : Trm) : List Trm := [(u.1 * v.1, u.2 ++ v.2), (u.1 * v.1, u.2 ++ opp v.2)]
def rws (A B : List Trm) : List Trm := A.flatMap fun a => B.flatMap fun b => [(a.1 * b.1, a.2 ++ b.2), (a.1 * b.1, a.2 ++ opp b.2)]
theorem cof_mul {x y m n : Int} (h1 : -m ≤ x ∧ x ≤ m) (h2 : -n ≤ y ∧ y ≤ n) : -(m * n) ≤ x * y ∧ x * y ≤ m * n := by
  have h5 : x.natAbs ≤ m.natAbs := by omega
  have h6 : y.natAbs ≤ n.natAbs := by omega
  have h7 := Nat.mul_le_mul h5 h6
  rw [← Int.natAbs_mul, ← Int.natAbs_mul] at h7
  have : 0 ≤ m * n := Int.mul_nonneg (by omega) (by omega)
  omega
theorem rws_mem {A B : List Trm} {t : Trm} (h : t ∈ rws A B) : ∃ u ∈ A, ∃ v ∈ B, t ∈ prs u v := by
  unfold rws at h
  obtain ⟨u, hu, h⟩ := List.mem_flatMap.1 h
  obtain ⟨v, hv, h⟩ := List.mem_flatMap.1 h
  exact ⟨u, hu, v, hv, h⟩
theorem rws_len (A B : List Trm) : (rws A B).length = A.length * (B.length * 2) := by
  unfold rws
  have hB : ∀ (u : Trm) (B : List Trm), (B.flatMap fun b => [(u.1 * b.1, u.2 ++ b.2), (u.1 * b.1, u.2 ++ opp b.2)]).length = B.length * 2 := fun u B => by
    induction B with
    | nil => rfl
    | cons x r ih => rw [List.flatMap_cons, List.length_append, ih, List.length_cons]; simp; omega
  induction A with
  | nil => simp
  | cons x r ih => rw [List.flatMap_cons, List.length_append, ih, hB, List.length_cons, Nat.add_mul]; omega
theorem Val.mul {a b c s : Int} (hz : Sz a b c) (h0 : 0 ≤ s) (h1 : s < a * b * c) {A B : List Trm} (h : Val a b c s A) (k : Val a b c s B) : Raw a b c s (rws A B) := by
  have key : ∀ t ∈ rws A B, ((∀ x ∈ t.2, IsStep x) ∧ t.2.length ≤ 16) ∧ en a b c s t.2 = s ∧ -1000000 ≤ t.1 ∧ t.1 ≤ 1000000 := fun t ht => by
    obtain ⟨u, hu, v, hv, hp⟩ := rws_mem ht
    obtain ⟨u1, u2⟩ := h.st u hu
    obtain ⟨v1, v2⟩ := k.st v hv
    have hc := cof_mul (h.co u hu) (k.co v hv)
    have cu := h.cl u hu
    have cv := k.cl v hv
    have co : en a b c s (opp v.2) = s := by
      have := en_opp hz h0 h1 v.2
      rwa [cv] at this
    simp only [prs, List.mem_cons, List.not_mem_nil, or_false] at hp
    rcases hp with rfl | rfl
    · refine ⟨⟨fun x hx => ?_, by simp only [List.length_append]; omega⟩, by simp only; rw [en_app, cu, cv], by simp only; omega⟩
      rcases List.mem_append.1 hx with e | e
      · exact u1 x e
      · exact v1 x e
    · refine ⟨⟨fun x hx => ?_, by simp only [List.length_append, opp_len]; omega⟩, by simp only; rw [en_app, cu, co], by simp only; omega⟩
      rcases List.mem_append.1 hx with e | e
      · exact u1 x e
      · exact opp_steps v1 x e
  refine ⟨fun t ht => (key t ht).1, fun t ht => (key t ht).2.1, fun t ht => (key t ht).2.2, ?_⟩
  rw [rws_len]
  have hA := h.n
  have hB := k.n
  have := Nat.mul_le_mul hA (show B.length * 2 ≤ 80 by omega)
  omega
theorem rws_sum {a b c : Int} {L : List Q} {s : Int} (hF : Fl a b c L) (h0 : 0 ≤ s) (h1 : s < a * b * c) {A B : List Trm} (h : Val a b c s A) (k : Val a b c s B) : SK (Tp a b c L s) A * SK (Tp a b c L s) B = KK * SK (Tp a b c L s) (rws A B) := by
  have one : ∀ (u : Trm), (∀ x ∈ u.2, IsStep x) ∧ u.2.length ≤ 8 → en a b c s u.2 = s → ∀ B : List Trm, (∀ t ∈ B, ((∀ x ∈ t.2, IsStep x) ∧ t.2.length ≤ 8) ∧ en a b c s t.2 = s) → u.1 * Tp a b c L s u.2 * SK (Tp a b c L s) B = KK * SK (Tp a b c L s) (B.flatMap fun b => [(u.1 * b.1, u.2 ++ b.2), (u.1 * b.1, u.2 ++ opp b.2)]) := fun u hu hc B => by
    induction B with
    | nil => intro _; simp [SK]
    | cons x r ih =>
      intro hB
      have i := ih fun t ht => hB t (by simp [ht])
      obtain ⟨⟨x1, x2⟩, x3⟩ := hB x (by simp)
      have hm := Tp_mul hF h0 h1 hu.1 x1 hu.2 x2 hc x3
      rw [List.flatMap_cons, SK_app, SK_cons, SK_cons, SK_cons, SK_nil, Int.mul_add, i, Int.mul_add]
      congr 1
      simp only
      calc u.1 * Tp a b c L s u.2 * (x.1 * Tp a b c L s x.2) = u.1 * x.1 * (Tp a b c L s u.2 * Tp a b c L s x.2) := by grind
        _ = _ := by rw [hm]; grind
  have key : ∀ A : List Trm, (∀ t ∈ A, ((∀ x ∈ t.2, IsStep x) ∧ t.2.length ≤ 8) ∧ en a b c s t.2 = s) → SK (Tp a b c L s) A * SK (Tp a b c L s) B = KK * SK (Tp a b c L s) (rws A B) := fun A => by
    induction A with
    | nil => intro _; simp [SK, rws]
    | cons u r ih =>
      intro hA
      have i := ih fun t ht => hA t (by simp [ht])
      obtain ⟨u1, u2⟩ := hA u (by simp)
      have e : rws (u :: r) B = (B.flatMap fun b => [(u.1 * b.1, u.2 ++ b.2), (u.1 * b.1, u.2 ++ opp b.2)]) ++ rws r B := by unfold rws; rw [List.flatMap_cons]
      rw [e, SK_app, SK_cons, Int.add_mul, i, one u u1 u2 B fun t ht => ⟨k.st t ht, k.cl t ht⟩, Int.mul_add]
  exact key A fun t ht => ⟨h.st t ht, h.cl t ht⟩

/-! ### values -/
theorem rat_mul (x y k : Int) (hk : 0 < k) : rat ((rat x k).1 * (rat y k).1) ((rat x k).2 * (rat y k).2) = rat (x * y) (k * k) := by
  have h1 := rat_cross x k
  have h2 := rat_cross y k
  have p1 := rat_pos x k hk
  have p2 := rat_pos y k hk
  refine rat_eq _ _ _ _ (Int.mul_pos p1 p2) (Int.mul_pos hk hk) ?_
  generalize (rat x k).1 = p at *
  generalize (rat x k).2 = q at *
  generalize (rat y k).1 = r at *
  generalize (rat y k).2 = t at *
  calc p * r * (k * k) = (p * k) * (r * k) := by grind
    _ = x * q * (y * t) := by rw [h1, h2]
    _ = x * y * (q * t) := by grind
theorem rat_add (x y k : Int) (hk : 0 < k) : rat ((rat x k).1 * (rat y k).2 + (rat y k).1 * (rat x k).2) ((rat x k).2 * (rat y k).2) = rat (x + y) k := by
  have h1 := rat_cross x k
  have h2 := rat_cross y k
  have p1 := rat_pos x k hk
  have p2 := rat_pos y k hk
  refine rat_eq _ _ _ _ (Int.mul_pos p1 p2) hk ?_
  generalize (rat x k).1 = p at *
  generalize (rat x k).2 = q at *
  generalize (rat y k).1 = r at *
  generalize (rat y k).2 = t at *
  calc (p * t + r * q) * k = (p * k) * t + (r * k) * q := by grind
    _ = x * q * t + y * t * q := by rw [h1, h2]
    _ = (x + y) * (q * t) := by grind
theorem valR_mul {a b c : Int} {L : List Q} {s : Int} (hF : Fl a b c L) (h0 : 0 ≤ s) (h1 : s < a * b * c) {A B N : List Trm} (h : Val a b c s A) (k : Val a b c s B) (hN : SK (Tp a b c L s) N = SK (Tp a b c L s) (rws A B)) : rat ((valR a b c L s A).1 * (valR a b c L s B).1) ((valR a b c L s A).2 * (valR a b c L s B).2) = valR a b c L s N := by
  unfold valR
  rw [rat_mul _ _ _ KK_pos, rws_sum hF h0 h1 h k, hN, rat_scale _ _ _ KK_pos]
theorem valR_add {a b c : Int} {L : List Q} {s : Int} {A B N : List Trm} (hN : SK (Tp a b c L s) N = SK (Tp a b c L s) (A ++ B)) : rat ((valR a b c L s A).1 * (valR a b c L s B).2 + (valR a b c L s B).1 * (valR a b c L s A).2) ((valR a b c L s A).2 * (valR a b c L s B).2) = valR a b c L s N := by
  unfold valR
  rw [rat_add _ _ _ KK_pos, hN, SK_app]
/-- the trace along a path is the value of the path -/
theorem valR_one {a b c : Int} {L : List Q} {s : Int} (hF : Fl a b c L) (h0 : 0 ≤ s) (h1 : s < a * b * c) {p : List Int} (hs : ∀ t ∈ p, IsStep t) (h8 : p.length ≤ 8) : valR a b c L s [(1, p)] = tr (al a b c L s p) := by
  have hw := wt_Tp hF h0 h1 hs h8
  have hr := tr_rt (ups a b c L s p) (hF.ups s p h0 h1 hs) (by rw [ups_len]; exact h8)
  have hv := few_V _ (hF.ups s p h0 h1 hs) (by rw [ups_len]; exact h8)
  have hd := wt_dvd hr
  unfold valR
  have e : SK (Tp a b c L s) [(1, p)] = Tp a b c L s p := by simp [SK]
  rw [e]
  have htr : tr (al a b c L s p) = rat (2 * (al a b c L s p).a) (al a b c L s p).n := rfl
  have hpos : 0 < (al a b c L s p).n := hv.u.pos
  rw [htr]
  refine rat_eq _ _ _ _ KK_pos hpos ?_
  have hc := rat_cross (2 * (al a b c L s p).a) (al a b c L s p).n
  rw [← htr] at hc
  have hrp := hr.pos
  unfold wt at hw
  have e2 : tr (low (fm (ups a b c L s p))) = tr (al a b c L s p) := rfl
  rw [e2] at hd hrp
  generalize tr (al a b c L s p) = r at *
  generalize (al a b c L s p).a = ya at *
  generalize (al a b c L s p).n = yn at *
  generalize Tp a b c L s p = T at *
  generalize MM / r.2 = u at *
  have hu : u ≠ 0 := by rintro rfl; simp [MM] at hd
  refine Int.eq_of_mul_eq_mul_left (a := r.2 * u) (by rw [hd]; decide) ?_
  calc r.2 * u * (T * yn) = (T * (r.2 * u)) * yn := by grind
    _ = (T * MM) * yn := by rw [hd]
    _ = r.1 * u * KK * yn := by rw [hw]
    _ = (r.1 * yn) * u * KK := by grind
    _ = 2 * ya * r.2 * u * KK := by rw [hc]
    _ = r.2 * u * (2 * ya * KK) := by grind
/-- a path and its plain path have the same trace -/
theorem tr_pl {a b c : Int} {L : List Q} {s : Int} (hF : Fl a b c L) (h0 : 0 ≤ s) (h1 : s < a * b * c) {p : List Int} (hs : ∀ t ∈ p, IsStep t) (h8 : p.length ≤ 8) (hc : en a b c s p = s) (hs2 : ∀ t ∈ plL p, IsStep t) (h82 : (plL p).length ≤ 8) : tr (al a b c L s (plL p)) = tr (al a b c L s p) := by
  rw [← valR_one hF h0 h1 hs h8, ← valR_one hF h0 h1 hs2 h82]
  unfold valR
  have e : ∀ q, SK (Tp a b c L s) [(1, q)] = Tp a b c L s q := fun q => by simp [SK]
  rw [e, e, Tp_pl hF h0 h1 hs (by omega) hc]
end Lm
