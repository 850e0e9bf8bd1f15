/- Plain mathematics of walks: through which sites a path leads, where it ends, and when it is closed; no Go.
Conditions: none. -/
import Derived.Test.YtoafojojhdcmfaaPathM
set_option autoImplicit false
namespace Tm
set_option linter.unusedVariables false
set_option linter.unusedSimpArgs false

def en (a b c s : Int) (l : List Int) : Int := l.foldl (nx a b c) s
def wl (a b c : Int) : Int → List Int → List Int
  | s, [] => [s]
  | s, t :: l => s :: wl a b c (nx a b c s t) l
theorem en_snoc (a b c s : Int) (l : List Int) (t : Int) : en a b c s (l ++ [t]) = nx a b c (en a b c s l) t := by simp [en, List.foldl_append]
theorem wl_snoc (a b c s : Int) (l : List Int) (t : Int) : wl a b c s (l ++ [t]) = wl a b c s l ++ [nx a b c (en a b c s l) t] := by
  induction l generalizing s with
  | nil => simp [wl, en]
  | cons u l ih => simp only [List.cons_append, wl, ih]; simp [en]
theorem wl_len (a b c s : Int) (l : List Int) : (wl a b c s l).length = l.length + 1 := by
  induction l generalizing s with
  | nil => rfl
  | cons u l ih => simp [wl, ih]
theorem wl_last (a b c s : Int) (l : List Int) : (wl a b c s l)[l.length]? = some (en a b c s l) := by
  induction l generalizing s with
  | nil => rfl
  | cons u l ih => simp only [wl, List.length_cons, List.getElem?_cons_succ, ih]; simp [en]
theorem en_take (a b c s : Int) (l : List Int) (k : Nat) (hk : k < l.length) : en a b c s (l.take (k + 1)) = nx a b c (en a b c s (l.take k)) l[k] := by
  rw [List.take_succ_eq_append_getElem hk, en_snoc]
theorem wl_take (a b c s : Int) (l : List Int) (k : Nat) (hk : k < l.length) : wl a b c s (l.take (k + 1)) = wl a b c s (l.take k) ++ [en a b c s (l.take (k + 1))] := by
  rw [List.take_succ_eq_append_getElem hk, wl_snoc, en_snoc]
theorem en_rng {a b c s : Int} (h : Sz a b c) (h0 : 0 ≤ s) (h1 : s < a * b * c) (l : List Int) : 0 ≤ en a b c s l ∧ en a b c s l < a * b * c := by
  have : ∀ (l : List Int) (s : Int), 0 ≤ s ∧ s < a * b * c → 0 ≤ en a b c s l ∧ en a b c s l < a * b * c := fun l => by
    induction l with
    | nil => intro s h; exact h
    | cons t l ih => intro s _; exact ih _ (nx_rng h s t)
  exact this l s ⟨h0, h1⟩

/-- how far a path leads in a direction -/
def sm (k : Int) (l : List Int) : Int := l.foldl (fun x t => x + dlt k t) 0
theorem sm_take (k : Int) (l : List Int) (i : Nat) (hi : i < l.length) : sm k (l.take (i + 1)) = sm k (l.take i) + dlt k l[i] := by
  unfold sm
  rw [List.take_succ_eq_append_getElem hi, List.foldl_append]
  rfl
theorem sm_snoc (k : Int) (l : List Int) (t : Int) : sm k (l ++ [t]) = sm k l + dlt k t := by
  unfold sm
  rw [List.foldl_append]
  rfl
theorem dlt_rng (k t : Int) : -1 ≤ dlt k t ∧ dlt k t ≤ 1 := by
  unfold dlt
  repeat' split
  all_goals omega
theorem sm_bnd (k : Int) (l : List Int) (i : Nat) (hi : i ≤ l.length) : -(i : Int) ≤ sm k (l.take i) ∧ sm k (l.take i) ≤ i := by
  induction i with
  | zero => simp [sm]
  | succ i ih =>
    have h := ih (by omega)
    have d := dlt_rng k (l[i]'(by omega))
    rw [sm_take k l i (by omega)]
    omega
theorem nx_site {a b c : Int} (h : Sz a b c) (x y z t : Int) : nx a b c (site a b c x y z) t = site a b c (x + dlt 1 t) (y + dlt 2 t) (z + dlt 3 t) := by
  unfold nx
  rw [px_site h, py_site h, pz_site h, site_add]
theorem snoc_ind {p : List Int → Prop} (h0 : p []) (h1 : ∀ l t, p l → p (l ++ [t])) (l : List Int) : p l := by
  have : ∀ m : List Int, p m.reverse := fun m => by
    induction m with
    | nil => exact h0
    | cons t m ih => rw [List.reverse_cons]; exact h1 _ _ ih
  have := this l.reverse
  rwa [List.reverse_reverse] at this
theorem en_site {a b c s : Int} (h : Sz a b c) (h0 : 0 ≤ s) (h1 : s < a * b * c) (l : List Int) : en a b c s l = site a b c (s % a + sm 1 l) (s / a % b + sm 2 l) (s / a / b + sm 3 l) := by
  refine snoc_ind (p := fun l => en a b c s l = site a b c (s % a + sm 1 l) (s / a % b + sm 2 l) (s / a / b + sm 3 l)) ?_ (fun l t ih => ?_) l
  · show s = _
    simp only [sm, List.foldl_nil, Int.add_zero]
    exact (site_place h h0 h1).symm
  · rw [en_snoc, ih, nx_site h, sm_snoc, sm_snoc, sm_snoc]
    simp only [Int.add_assoc]
theorem mod_add_iff (x y n : Int) : (x % n + y) % n = x % n ↔ n ∣ y := by
  constructor
  · intro h
    have e := Int.emod_add_mul_ediv (x % n + y) n
    rw [h] at e
    exact ⟨(x % n + y) / n, by omega⟩
  · rintro ⟨q, rfl⟩
    rw [Int.add_mul_emod_self_left, Int.emod_emod]
def Clo (a b c : Int) (l : List Int) : Prop := a ∣ sm 1 l ∧ b ∣ sm 2 l ∧ c ∣ sm 3 l
theorem closed_iff {a b c s : Int} (h : Sz a b c) (h0 : 0 ≤ s) (h1 : s < a * b * c) (l : List Int) : en a b c s l = s ↔ Clo a b c l := by
  have e := en_site h h0 h1 l
  have hz := pz_mod h h0 h1
  constructor
  · intro he
    rw [he] at e
    have x1 := px_site h (s % a + sm 1 l) (s / a % b + sm 2 l) (s / a / b + sm 3 l)
    have x2 := py_site h (s % a + sm 1 l) (s / a % b + sm 2 l) (s / a / b + sm 3 l)
    have x3 := pz_site h (s % a + sm 1 l) (s / a % b + sm 2 l) (s / a / b + sm 3 l)
    rw [← e] at x1 x2 x3
    refine ⟨(mod_add_iff s (sm 1 l) a).1 x1.symm, (mod_add_iff (s / a) (sm 2 l) b).1 x2.symm, (mod_add_iff (s / a / b) (sm 3 l) c).1 ?_⟩
    rw [hz]
    exact x3.symm
  · rintro ⟨⟨p, hp⟩, ⟨q, hq⟩, ⟨r, hr⟩⟩
    rw [e, hp, hq, hr]
    have := site_place h h0 h1
    conv => rhs; rw [← this]
    unfold site
    rw [Int.add_mul_emod_self_left, Int.add_mul_emod_self_left, Int.add_mul_emod_self_left]
end Tm
