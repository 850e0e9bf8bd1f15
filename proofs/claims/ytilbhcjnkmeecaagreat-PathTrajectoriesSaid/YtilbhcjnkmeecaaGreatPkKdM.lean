/- Plain mathematics of trajectories: numbers of small units, forces, pushes, drifts, steps, and that a step is turned round by opposite momenta; no Go.
Conditions: none but those written at each theorem. -/
import Derived.Test.YtilbhcjnkmeecaaGreatPkMathA
set_option autoImplicit false
namespace Km
set_option linter.unusedVariables false
set_option linter.unusedSimpArgs false
open Um Tm

/-! ### Numbers of small units -/
def nm (x : Q) : Int := (((List.range 24).findIdx (fun k : Nat => decide (small (k : Int) = x)) : Nat) : Int)
theorem nm_small : ∀ k : Nat, k < 24 → nm (small k) = k := by decide +kernel
theorem small_inj : ∀ j : Nat, j < 24 → ∀ k : Nat, k < 24 → small j = small k → j = k := by decide +kernel
theorem IsS.nm {x : Q} (h : IsS x) : 0 ≤ nm x ∧ nm x ≤ 23 ∧ small (nm x) = x := by
  obtain ⟨k, hk, rfl⟩ := h
  rw [nm_small k hk]
  exact ⟨by omega, by omega, rfl⟩
theorem IsS.nmN {x : Q} (h : IsS x) : ∃ k : Nat, k < 24 ∧ Km.nm x = k ∧ small (k : Int) = x := by
  obtain ⟨k, hk, rfl⟩ := h
  exact ⟨k, hk, nm_small k hk, rfl⟩
theorem nm_one : nm one = 0 := by decide +kernel
theorem IsS.small {n : Int} (h0 : 0 ≤ n) (h1 : n ≤ 23) : IsS (small n) := by
  obtain ⟨k, rfl⟩ := Int.eq_ofNat_of_zero_le h0
  exact ⟨k, by omega, rfl⟩
theorem small_nm_map {L : List Q} (h : ∀ x ∈ L, IsS x) : (L.map nm).map small = L := by
  induction L with
  | nil => rfl
  | cons x L ih => simp only [List.map_cons, (h x (List.mem_cons_self ..)).nm.2.2, ih fun z hz => h z (List.mem_cons_of_mem _ hz)]

/-! ### Twice the coordinates -/
def tb (x : Q) : Int := (2 * x.b).tdiv x.n
def tc (x : Q) : Int := (2 * x.c).tdiv x.n
def td (x : Q) : Int := (2 * x.d).tdiv x.n
theorem small_tw : ∀ k : Nat, k < 24 → (-2 ≤ (small k).b ∧ (small k).b ≤ 2) ∧ (-2 ≤ (small k).c ∧ (small k).c ≤ 2) ∧ (-2 ≤ (small k).d ∧ (small k).d ≤ 2) ∧ ((small k).n = 1 ∨ (small k).n = 2) ∧ (-2 ≤ tb (small k) ∧ tb (small k) ≤ 2) ∧ (-2 ≤ tc (small k) ∧ tc (small k) ≤ 2) ∧ (-2 ≤ td (small k) ∧ td (small k) ≤ 2) := by decide +kernel
theorem IsS.tw {x : Q} (h : IsS x) : (-2 ≤ x.b ∧ x.b ≤ 2) ∧ (-2 ≤ x.c ∧ x.c ≤ 2) ∧ (-2 ≤ x.d ∧ x.d ≤ 2) ∧ (x.n = 1 ∨ x.n = 2) ∧ (-2 ≤ tb x ∧ tb x ≤ 2) ∧ (-2 ≤ tc x ∧ tc x ≤ 2) ∧ (-2 ≤ td x ∧ td x ≤ 2) := by
  obtain ⟨k, hk, rfl⟩ := h
  exact small_tw k hk

/-! ### Forces -/
/-- the unit along the plaquette of a link's step and another one -/
def pl4 (a b c : Int) (L : List Q) (s d e : Int) : Q := al a b c L s [d, e, -d, -e]
def e1 (d : Int) : Int := if d = 1 then 2 else 1
def e2 (d : Int) : Int := if d = 3 then 2 else 3
theorem e_step {d : Int} (h1 : 1 ≤ d) (h3 : d ≤ 3) : IsStep (e1 d) ∧ IsStep (e2 d) ∧ IsStep d := by
  unfold e1 e2 IsStep
  refine ⟨?_, ?_, ?_⟩ <;> (repeat' split) <;> omega
def frA (f : Q → Int) (a b c : Int) (L : List Q) (s d : Int) : Int := f (pl4 a b c L s d (e1 d)) + f (pl4 a b c L s d (-(e1 d))) + f (pl4 a b c L s d (e2 d)) + f (pl4 a b c L s d (-(e2 d)))
/-- the force on a link -/
def frc (a b c : Int) (L : List Q) (i : Nat) : Kk := ⟨frA tb a b c L ((i : Int) / 3) ((i : Int) % 3 + 1), frA tc a b c L ((i : Int) / 3) ((i : Int) % 3 + 1), frA td a b c L ((i : Int) / 3) ((i : Int) % 3 + 1)⟩
theorem neg_step {t : Int} (h : IsStep t) : IsStep (-t) := by unfold IsStep at *; omega
theorem pl4_S {a b c : Int} {L : List Q} (hF : Fl a b c L) (h : ∀ x ∈ L, IsS x) {s d e : Int} (h0 : 0 ≤ s) (h1 : s < a * b * c) (hd : IsStep d) (he : IsStep e) : IsS (pl4 a b c L s d e) :=
  al_S hF h s _ h0 h1 (by
    intro t ht
    simp only [List.mem_cons, List.not_mem_nil, or_false] at ht
    rcases ht with rfl | rfl | rfl | rfl
    · exact hd
    · exact he
    · exact neg_step hd
    · exact neg_step he)
theorem al_nil (a b c : Int) (L : List Q) (s : Int) : al a b c L s [] = one := by
  show low (fm []) = one
  decide +kernel
theorem al_snoc {a b c : Int} {L : List Q} (hF : Fl a b c L) {s : Int} (l : List Int) (t : Int) (h0 : 0 ≤ s) (h1 : s < a * b * c) (hl : ∀ t ∈ l, IsStep t) : al a b c L s (l ++ [t]) = low (mul (al a b c L s l) (up a b c L (en a b c s l) t)) := by
  have hu : U (fm (ups a b c L s l)) := fm_U _ fun x hx => (hF.ups s l h0 h1 hl x hx).1
  unfold al
  rw [ups_app, fm_app, low_mul_left _ _ hu.pos]
  show low (mul _ (fm [up a b c L (en a b c s l) t])) = _
  rw [fm_one]
/-- the unit along a plaquette, step by step -/
theorem al_four {a b c : Int} {L : List Q} (hF : Fl a b c L) {s t0 t1 t2 t3 : Int} (h0 : 0 ≤ s) (h1 : s < a * b * c) (i0 : IsStep t0) (i1 : IsStep t1) (i2 : IsStep t2) : al a b c L s [t0, t1, t2, t3] = low (mul (low (mul (low (mul (low (mul one (up a b c L s t0))) (up a b c L (nx a b c s t0) t1))) (up a b c L (nx a b c (nx a b c s t0) t1) t2))) (up a b c L (nx a b c (nx a b c (nx a b c s t0) t1) t2) t3)) := by
  have m1 : ∀ t ∈ [t0], IsStep t := by simp; exact i0
  have m2 : ∀ t ∈ [t0, t1], IsStep t := by simp; exact ⟨i0, i1⟩
  have m3 : ∀ t ∈ [t0, t1, t2], IsStep t := by simp; exact ⟨i0, i1, i2⟩
  have e3 := al_snoc hF [t0, t1, t2] t3 h0 h1 m3
  have e2 := al_snoc hF [t0, t1] t2 h0 h1 m2
  have e1 := al_snoc hF [t0] t1 h0 h1 m1
  have e0 := al_snoc hF [] t0 h0 h1 (by simp)
  simp only [List.nil_append, List.cons_append, en, List.foldl_nil, List.foldl_cons] at e0 e1 e2 e3
  rw [e3, e2, e1, e0, al_nil]
/-- the first number of three -/
def Kk.at (k : Kk) (j : Nat) : Int := if j = 0 then k.a else if j = 1 then k.b else k.c

/-! ### Pushes and drifts -/
def at3 (l : List Int) (k : Nat) : Kk := ⟨l.getD (k * 3) 0, l.getD (k * 3 + 1) 0, l.getD (k * 3 + 2) 0⟩
def psh (F : Nat → Kk) (l : List Int) : List Int := (List.range l.length).map fun i => (l.getD i 0 + (F (i / 3)).at (i % 3)) % 8
theorem psh_len (F : Nat → Kk) (l : List Int) : (psh F l).length = l.length := by simp [psh]
theorem psh_get (F : Nat → Kk) (l : List Int) {i : Nat} (h : i < l.length) : (psh F l)[i]? = some ((l[i] + (F (i / 3)).at (i % 3)) % 8) := by
  unfold psh
  rw [List.getElem?_map, List.getElem?_range h]
  simp [List.getD_eq_getElem?_getD, List.getElem?_eq_getElem h]
def dft (L : List Q) (l : List Int) : List Q := (List.range L.length).map fun k => low (mul (turn (at3 l k)) (L.getD k one))
theorem dft_len (L : List Q) (l : List Int) : (dft L l).length = L.length := by simp [dft]
theorem dft_get (L : List Q) (l : List Int) {k : Nat} (h : k < L.length) : (dft L l)[k]? = some (low (mul (turn (at3 l k)) L[k])) := by
  unfold dft
  rw [List.getElem?_map, List.getElem?_range h]
  simp [List.getD_eq_getElem?_getD, List.getElem?_eq_getElem h]
/-- numbers from 0 to 7 -/
def AllK (l : List Int) : Prop := ∀ x ∈ l, IsN x
theorem psh_K (F : Nat → Kk) (l : List Int) : AllK (psh F l) := by
  intro x hx
  unfold psh at hx
  rw [List.mem_map] at hx
  obtain ⟨i, -, rfl⟩ := hx
  unfold IsN; omega
theorem AllK.getD {l : List Int} (h : AllK l) (i : Nat) : IsN (l.getD i 0) := by
  by_cases hi : i < l.length
  · rw [List.getD_eq_getElem?_getD, List.getElem?_eq_getElem hi]
    exact h _ (List.getElem_mem hi)
  · rw [List.getD_eq_getElem?_getD, List.getElem?_eq_none (by omega)]
    show IsN 0
    decide
theorem AllK.at3 {l : List Int} (h : AllK l) (k : Nat) : IsK (at3 l k) := ⟨h.getD _, h.getD _, h.getD _⟩
theorem turn_S {k : Kk} (h : IsK k) : IsS (turn k) ∧ turn (opp k) = bar (turn k) := by
  obtain ⟨x, y, z⟩ := k
  obtain ⟨h1, h2, h3⟩ := h
  obtain ⟨i, hi, rfl⟩ := isN_nat h1
  obtain ⟨j, hj, rfl⟩ := isN_nat h2
  obtain ⟨m, hm, rfl⟩ := isN_nat h3
  obtain ⟨k1, -, k3⟩ := turn_bar i hi j hj m hm
  exact ⟨k3, k1⟩
theorem dft_S {L : List Q} {l : List Int} (h : ∀ x ∈ L, IsS x) (hl : AllK l) : ∀ x ∈ dft L l, IsS x := by
  intro x hx
  obtain ⟨i, hi, rfl⟩ := List.getElem_of_mem hx
  rw [dft_len] at hi
  have := dft_get L l hi
  rw [List.getElem?_eq_getElem (by rw [dft_len]; exact hi)] at this
  rw [Option.some.inj this]
  exact (turn_S (hl.at3 i)).1.mul (h _ (List.getElem_mem hi))

/-! ### States -/
structure St (a b c : Int) (n : Nat) (L : List Q) (l : List Int) : Prop where
  f : Fl a b c L
  s : ∀ x ∈ L, IsS x
  e : L.length = n
  m : l.length = n * 3
  k : AllK l
theorem Fl_of {a b c : Int} {L : List Q} (hz : Sz a b c) (hn : (L.length : Int) = 3 * (a * b * c)) (h : ∀ x ∈ L, IsS x) : Fl a b c L :=
  ⟨hz, hn, fun i x hx => by
    have hs := h x (List.mem_of_getElem? hx)
    have := hs.tw.2.2.2.1
    exact ⟨hs.V, by omega⟩⟩
theorem St.push {a b c : Int} {n : Nat} {L : List Q} {l : List Int} (h : St a b c n L l) (F : Nat → Kk) : St a b c n L (psh F l) := ⟨h.f, h.s, h.e, by rw [psh_len, h.m], psh_K F l⟩
theorem St.drift {a b c : Int} {n : Nat} {L : List Q} {l : List Int} (h : St a b c n L l) : St a b c n (dft L l) l :=
  ⟨Fl_of h.f.z (by rw [dft_len]; exact h.f.n) (dft_S h.s h.k), dft_S h.s h.k, by rw [dft_len, h.e], h.m, h.k⟩
def stp (a b c : Int) (s : List Q × List Int) : List Q × List Int :=
  let l1 := psh (frc a b c s.1) s.2
  let L1 := dft s.1 l1
  (L1, psh (frc a b c L1) l1)
theorem St.stp {a b c : Int} {n : Nat} {L : List Q} {l : List Int} (h : St a b c n L l) : St a b c n (stp a b c (L, l)).1 (stp a b c (L, l)).2 := ((h.push _).drift).push _
def rn (a b c : Int) (s : List Q × List Int) : Nat → List Q × List Int
  | 0 => s
  | k + 1 => stp a b c (rn a b c s k)
theorem St.rn {a b c : Int} {n : Nat} {L : List Q} {l : List Int} (h : St a b c n L l) : ∀ k, St a b c n (rn a b c (L, l) k).1 (rn a b c (L, l) k).2
  | 0 => h
  | k + 1 => (St.rn h k).stp
/-! ### Turned round -/
def rvl (l : List Int) : List Int := l.map oppN
/-- turned round -/
def rv (s : List Q × List Int) : List Q × List Int := (s.1, rvl s.2)
/-- the period: the first number of steps from 1 to a limit that lead back -/
def perR (a b c : Int) (s : List Q × List Int) (lim : Nat) (r : Int) (q : Bool) : Prop := (q = true ∧ ∃ k : Nat, 1 ≤ k ∧ k ≤ lim ∧ r = k ∧ rn a b c s k = s ∧ ∀ j, 1 ≤ j → j < k → rn a b c s j ≠ s) ∨ (q = false ∧ r = 0 ∧ ∀ j, 1 ≤ j → j ≤ lim → rn a b c s j ≠ s)
/-! ### Lists that are written in place -/
theorem set_take_drop {α : Type} {P l : List α} (hl : P.length = l.length) {i : Nat} (hi : i < l.length) : (P.take i ++ l.drop i).set i (P[i]'(by omega)) = P.take (i + 1) ++ l.drop (i + 1) := by
  have hi2 : i < P.length := by omega
  rw [List.set_append_right _ _ (by simp; omega), List.length_take, Nat.min_eq_left (by omega), Nat.sub_self, List.drop_eq_getElem_cons hi, List.set_cons_zero, List.take_succ_eq_append_getElem hi2, List.append_assoc]
  rfl
theorem at_take_drop {α : Type} {P l : List α} (hl : P.length = l.length) {i j : Nat} (hij : i ≤ j) (hj : j < l.length) : (P.take i ++ l.drop i)[j]? = l[j]? := by
  rw [List.getElem?_append_right (by simp; omega), List.length_take, Nat.min_eq_left (by omega), List.getElem?_drop]
  congr 1
  omega
end Km
