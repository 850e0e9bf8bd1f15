/- Plain mathematics of shifted and turned fields: a shift that is filled link by link, two shifts, three turns, paths in a turned field; no Go.
Conditions: none. -/
import Derived.Test.YtmmkhkkmgjighaaMathA
set_option autoImplicit false
namespace Tm
set_option linter.unusedVariables false
set_option linter.unusedSimpArgs false
open Um

theorem lk_set {L : List Q} {i j : Int} (h0 : 0 ≤ i) (h1 : i < (L.length : Int)) (j0 : 0 ≤ j) (x : Q) : lk (L.set i.toNat x) j = if j = i then x else lk L j := by
  unfold lk
  rw [List.getD_eq_getElem?_getD, List.getD_eq_getElem?_getD, List.getElem?_set]
  by_cases h : j = i
  · subst h
    rw [if_pos rfl, if_pos rfl, if_pos (by omega)]
    rfl
  · rw [if_neg h, if_neg (by omega)]
theorem lk_ext {L M : List Q} (hn : L.length = M.length) (h : ∀ i : Int, 0 ≤ i → i < (L.length : Int) → lk L i = lk M i) : L = M := by
  apply List.ext_getElem hn
  intro i h1 h2
  have := h i (by omega) (by omega)
  unfold lk at this
  simp only [Int.toNat_natCast] at this
  rw [List.getD_eq_getElem?_getD, List.getD_eq_getElem?_getD, List.getElem?_eq_getElem h1, List.getElem?_eq_getElem h2] at this
  simpa using this

/-! ### Shifts -/
theorem sh_mod (a b c x y z s : Int) : sh a b c (x % a) (y % b) (z % c) s = sh a b c x y z s := by
  unfold sh site
  rw [Int.add_emod_emod, Int.add_emod_emod, Int.add_emod_emod]
theorem sh_sh {a b c : Int} (h : Sz a b c) (x y z u v t s : Int) : sh a b c u v t (sh a b c x y z s) = sh a b c (x + u) (y + v) (z + t) s := by
  rw [sh, sh, px_site h, py_site h, pz_site h, site_add]
  unfold sh
  rw [Int.add_assoc, Int.add_assoc, Int.add_assoc]
theorem sh_ex {a b c : Int} (h : Sz a b c) (x y z : Int) {t : Int} (h0 : 0 ≤ t) (h1 : t < a * b * c) : ∃ s, 0 ≤ s ∧ s < a * b * c ∧ sh a b c x y z s = t := by
  refine ⟨sh a b c (-x) (-y) (-z) t, (sh_rng h _ _ _ _).1, (sh_rng h _ _ _ _).2, ?_⟩
  have := sh_back h h0 h1 (-x) (-y) (-z)
  rwa [Int.neg_neg, Int.neg_neg, Int.neg_neg] at this
theorem sh_inj {a b c : Int} (h : Sz a b c) (x y z : Int) {s t : Int} (s0 : 0 ≤ s) (s1 : s < a * b * c) (t0 : 0 ≤ t) (t1 : t < a * b * c) (e : sh a b c x y z s = sh a b c x y z t) : s = t := by
  rw [← sh_back h s0 s1 x y z, e, sh_back h t0 t1 x y z]
/-- the links of the shifted field -/
def shL (a b c x y z : Int) (L : List Q) : List Q := (List.range L.length).map fun (i : Nat) => lk L (3 * sh a b c (-x) (-y) (-z) ((i : Int) / 3) + (i : Int) % 3)
theorem shL_len (a b c x y z : Int) (L : List Q) : (shL a b c x y z L).length = L.length := by simp [shL]
theorem shL_get (a b c x y z : Int) (L : List Q) (i : Nat) (h : i < L.length) : (shL a b c x y z L)[i]? = some (lk L (3 * sh a b c (-x) (-y) (-z) ((i : Int) / 3) + (i : Int) % 3)) := by
  unfold shL
  rw [List.getElem?_map, List.getElem?_range h]
  rfl
theorem shL_shd {a b c x y z : Int} {L : List Q} (hz : Sz a b c) (hl : (L.length : Int) = 3 * (a * b * c)) : Shd a b c x y z L (shL a b c x y z L) := by
  refine ⟨shL_len .., fun s d s0 s1 d0 d1 => ?_⟩
  have hr := sh_rng hz x y z s
  have e : ((3 * sh a b c x y z s + d).toNat : Int) = 3 * sh a b c x y z s + d := by omega
  have := shL_get a b c x y z L (3 * sh a b c x y z s + d).toNat (by omega)
  rw [e, show (3 * sh a b c x y z s + d) / 3 = sh a b c x y z s by omega, show (3 * sh a b c x y z s + d) % 3 = d by omega, sh_back hz s0 s1] at this
  conv => lhs; unfold lk
  rw [List.getD_eq_getElem?_getD, this]
  rfl
/-- a list that is filled, link by link -/
def Filld (T G : List Q) (P : Int → Prop) : Prop := G.length = T.length ∧ ∀ i : Int, 0 ≤ i → i < (T.length : Int) → P i → lk G i = lk T i
theorem Filld.set {T G : List Q} {P : Int → Prop} (h : Filld T G P) {j : Int} (j0 : 0 ≤ j) (j1 : j < (T.length : Int)) : Filld T (G.set j.toNat (lk T j)) (fun i => P i ∨ i = j) := by
  refine ⟨by rw [List.length_set]; exact h.1, fun i i0 i1 hp => ?_⟩
  rw [lk_set j0 (by rw [h.1]; exact j1) i0]
  split
  · rename_i e; rw [e]
  · rename_i e
    rcases hp with hp | hp
    · exact h.2 i i0 i1 hp
    · exact absurd hp e
theorem Filld.mono {T G : List Q} {P P' : Int → Prop} (h : Filld T G P) (hp : ∀ i, 0 ≤ i → P' i → P i) : Filld T G P' := ⟨h.1, fun i i0 i1 h' => h.2 i i0 i1 (hp i i0 h')⟩
theorem Filld.full {T G : List Q} {P : Int → Prop} (h : Filld T G P) (hp : ∀ i, 0 ≤ i → i < (T.length : Int) → P i) : G = T :=
  lk_ext h.1 fun i i0 i1 => h.2 i i0 (by rw [← h.1]; exact i1) (hp i i0 (by rw [← h.1]; exact i1))
theorem Filld.none {T G : List Q} (h : G.length = T.length) : Filld T G (fun _ => False) := ⟨h, fun _ _ _ hp => hp.elim⟩
/-- the three links of a site more -/
theorem Filld.three {T G : List Q} {P : Int → Prop} (h : Filld T G P) {s : Int} (s0 : 0 ≤ s) (s1 : 3 * s + 2 < (T.length : Int)) : Filld T (((G.set (3 * s).toNat (lk T (3 * s))).set (3 * s + 1).toNat (lk T (3 * s + 1))).set (3 * s + 2).toNat (lk T (3 * s + 2))) (fun i => P i ∨ i / 3 = s) :=
  (((h.set (j := 3 * s) (by omega) (by omega)).set (j := 3 * s + 1) (by omega) (by omega)).set (j := 3 * s + 2) (by omega) (by omega)).mono fun i i0 hi => by
    rcases hi with hi | hi
    · exact .inl (.inl (.inl hi))
    · have : i = 3 * s ∨ i = 3 * s + 1 ∨ i = 3 * s + 2 := by omega
      rcases this with h | h | h
      · exact .inl (.inl (.inr h))
      · exact .inl (.inr h)
      · exact .inr h
theorem Shd.eq {a b c x y z : Int} {L G H : List Q} (hz : Sz a b c) (hl : (L.length : Int) = 3 * (a * b * c)) (h : Shd a b c x y z L G) (k : Shd a b c x y z L H) : G = H := by
  refine lk_ext (by rw [h.n, k.n]) fun i i0 i1 => ?_
  rw [h.n, hl] at i1
  obtain ⟨s, s0, s1, e⟩ := sh_ex hz x y z (t := i / 3) (by omega) (by omega)
  have e1 := h.g s (i % 3) s0 s1 (by omega) (by omega)
  have e2 := k.g s (i % 3) s0 s1 (by omega) (by omega)
  rw [e, show 3 * (i / 3) + i % 3 = i by omega] at e1 e2
  rw [e1, e2]
theorem Shd.fl {a b c x y z : Int} {L G : List Q} (hF : Fl a b c L) (h : Shd a b c x y z L G) : Fl a b c G := by
  refine ⟨hF.z, by rw [h.n]; exact hF.n, fun i q hy => ?_⟩
  have hi := (List.getElem?_eq_some_iff.1 hy).1
  have hn := hF.n
  rw [h.n] at hi
  obtain ⟨s, s0, s1, e⟩ := sh_ex hF.z x y z (t := (i : Int) / 3) (by omega) (by omega)
  have e1 := h.g s ((i : Int) % 3) s0 s1 (by omega) (by omega)
  rw [e, show 3 * ((i : Int) / 3) + (i : Int) % 3 = i by omega] at e1
  have e2 : lk G i = q := by
    unfold lk
    rw [List.getD_eq_getElem?_getD, Int.toNat_natCast, hy]
    rfl
  rw [← e2, e1]
  exact hF.lk (by omega) (by omega)
theorem Shd.trans {a b c x y z u v t : Int} {L G H : List Q} (hz : Sz a b c) (h : Shd a b c x y z L G) (k : Shd a b c u v t G H) : Shd a b c (x + u) (y + v) (z + t) L H :=
  ⟨k.n.trans h.n, fun s d s0 s1 d0 d1 => by
    have hr := sh_rng hz x y z s
    have e := k.g _ d hr.1 hr.2 d0 d1
    rw [sh_sh hz] at e
    rw [e]
    exact h.g s d s0 s1 d0 d1⟩

/-! ### Turns -/
theorem Sz.turn {a b c : Int} (h : Sz a b c) : Sz b c a :=
  ⟨h.b1, h.b4, h.c1, h.c4, h.a1, h.a4, by have := h.p; rw [Int.mul_comm, ← Int.mul_assoc]; exact this⟩
theorem turn_vol (a b c : Int) : b * c * a = a * b * c := by rw [Int.mul_comm, ← Int.mul_assoc]
/-- from which site a site of the turned field comes -/
def tn (a b c s : Int) : Int := site a b c (s / b / c) (s % b) (s / b % c)
theorem tn_rng {a b c : Int} (h : Sz a b c) (s : Int) : 0 ≤ tn a b c s ∧ tn a b c s < a * b * c := site_rng h _ _ _
theorem site_mod (a b c x y z : Int) : site a b c (x % a) (y % b) (z % c) = site a b c x y z := by
  unfold site
  rw [Int.emod_emod, Int.emod_emod, Int.emod_emod]
theorem tn_three {a b c s : Int} (h : Sz a b c) (h0 : 0 ≤ s) (h1 : s < a * b * c) : tn a b c (tn b c a (tn c a b s)) = s := by
  have h2 := h.turn
  have h3 := h2.turn
  have e1 : tn b c a (tn c a b s) = site b c a (s / a % b) (s / a / b) (s % a) := by
    conv => lhs; unfold tn
    rw [px_site h3, py_site h3, pz_site h3]
    exact site_mod b c a (s / a % b) (s / a / b) (s % a)
  rw [e1]
  conv => lhs; unfold tn
  rw [px_site h2, py_site h2, pz_site h2, site_mod a b c (s % a) (s / a % b) (s / a / b), site_place h h0 h1]
/-- the links of the turned field -/
def turnL (a b c : Int) (L : List Q) : List Q := (List.range L.length).map fun (i : Nat) => lk L (3 * tn a b c ((i : Int) / 3) + ((i : Int) % 3 + 1) % 3)
theorem turnL_len (a b c : Int) (L : List Q) : (turnL a b c L).length = L.length := by simp [turnL]
theorem turnL_get (a b c : Int) (L : List Q) (i : Nat) (h : i < L.length) : (turnL a b c L)[i]? = some (lk L (3 * tn a b c ((i : Int) / 3) + ((i : Int) % 3 + 1) % 3)) := by
  unfold turnL
  rw [List.getElem?_map, List.getElem?_range h]
  rfl
theorem turnL_lk {a b c s d : Int} {L : List Q} (hl : (L.length : Int) = 3 * (a * b * c)) (s0 : 0 ≤ s) (s1 : s < a * b * c) (d0 : 0 ≤ d) (d1 : d < 3) : lk (turnL a b c L) (3 * s + d) = lk L (3 * tn a b c s + (d + 1) % 3) := by
  have e : ((3 * s + d).toNat : Int) = 3 * s + d := by omega
  have := turnL_get a b c L (3 * s + d).toNat (by omega)
  unfold lk
  rw [List.getD_eq_getElem?_getD, this, e]
  rw [show (3 * s + d) / 3 = s by omega, show (3 * s + d) % 3 = d by omega]
  rfl
theorem turnL_fl {a b c : Int} {L : List Q} (hF : Fl a b c L) : Fl b c a (turnL a b c L) := by
  refine ⟨hF.z.turn, by rw [turnL_len, turn_vol]; exact hF.n, fun i y hy => ?_⟩
  have hi := (List.getElem?_eq_some_iff.1 hy).1
  rw [turnL_len] at hi
  rw [turnL_get a b c L i hi] at hy
  have hr := tn_rng hF.z ((i : Int) / 3)
  cases hy
  exact hF.lk (by omega) (by omega)
theorem turn_three {a b c : Int} {L : List Q} (hz : Sz a b c) (hl : (L.length : Int) = 3 * (a * b * c)) : turnL c a b (turnL b c a (turnL a b c L)) = L := by
  have h2 := hz.turn
  have h3 := h2.turn
  refine lk_ext (by rw [turnL_len, turnL_len, turnL_len]) fun i i0 i1 => ?_
  rw [turnL_len, turnL_len, turnL_len] at i1
  have v2 := turn_vol a b c
  have v3 := turn_vol b c a
  have r3 := tn_rng h3 (i / 3)
  have r2 := tn_rng h2 (tn c a b (i / 3))
  have e := turnL_lk (a := c) (b := a) (c := b) (s := i / 3) (d := i % 3) (L := turnL b c a (turnL a b c L)) (by rw [turnL_len, turnL_len]; omega) (by omega) (by omega) (by omega) (by omega)
  rw [show 3 * (i / 3) + i % 3 = i by omega] at e
  rw [e, turnL_lk (a := b) (b := c) (c := a) (by rw [turnL_len]; omega) r3.1 (by omega) (by omega) (by omega), turnL_lk (a := a) (b := b) (c := c) hl r2.1 (by omega) (by omega) (by omega), tn_three hz (by omega) (by omega)]
  congr 1
  omega
end Tm
