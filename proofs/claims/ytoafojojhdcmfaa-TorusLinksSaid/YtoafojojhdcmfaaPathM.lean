/- Plain mathematics of paths: opposite paths, and what is left of a path without steps that undo each other; no Go.
Conditions: none. -/
import Derived.Test.YtoafojojhdcmfaaTorM
set_option autoImplicit false
namespace Tm
set_option linter.unusedVariables false
set_option linter.unusedSimpArgs false

/-- the error of a path -/
def pathR (l : List Int) (r : Int) : Prop := (8 < l.length ∧ r = 3) ∨ (l.length ≤ 8 ∧ (∃ t ∈ l, ¬ IsStep t) ∧ r = 1) ∨ (l.length ≤ 8 ∧ (∀ t ∈ l, IsStep t) ∧ r = 0)
theorem pathR_ex (l : List Int) : ∃ r, pathR l r := by
  by_cases h : l.length ≤ 8
  · by_cases ht : ∀ t ∈ l, IsStep t
    · exact ⟨0, .inr (.inr ⟨h, ht, rfl⟩)⟩
    · refine ⟨1, .inr (.inl ⟨h, ?_, rfl⟩)⟩
      refine Classical.byContradiction fun hn => ht fun t ht => Classical.byContradiction fun hs => hn ⟨t, ht, hs⟩
  · exact ⟨3, .inl ⟨by omega, rfl⟩⟩

def opp (l : List Int) : List Int := (l.map fun t => -t).reverse
theorem opp_len (l : List Int) : (opp l).length = l.length := by simp [opp]
theorem opp_step (l : List Int) (k : Nat) (hk : k < l.length) : opp (l.take (k + 1)) = -l[k] :: opp (l.take k) := by
  unfold opp
  rw [List.take_succ_eq_append_getElem hk, List.map_append, List.reverse_append]
  rfl
theorem opp_down (l : List Int) (k : Nat) (hk : k < l.length) : opp (l.drop k) = opp (l.drop (k + 1)) ++ [-l[k]] := by
  unfold opp
  rw [List.drop_eq_getElem_cons hk, List.map_cons, List.reverse_cons]

/-- a stack of steps, its last one first -/
def push : List Int → Int → List Int
  | [], t => [t]
  | x :: st, t => if x = -t then st else t :: x :: st
def redS (l : List Int) : List Int := l.foldl push []
def red (l : List Int) : List Int := (redS l).reverse
theorem redS_step (l : List Int) (k : Nat) (hk : k < l.length) : redS (l.take (k + 1)) = push (redS (l.take k)) l[k] := by
  unfold redS
  rw [List.take_succ_eq_append_getElem hk, List.foldl_append]
  rfl
theorem push_len (st : List Int) (t : Int) : (push st t).length ≤ st.length + 1 := by
  cases st with
  | nil => simp [push]
  | cons x st =>
    simp only [push]
    split
    · simp; omega
    · simp
theorem redS_len (l : List Int) : (redS l).length ≤ l.length := by
  have : ∀ (l st : List Int), (l.foldl push st).length ≤ st.length + l.length := fun l => by
    induction l with
    | nil => intro st; simp
    | cons t l ih =>
      intro st
      have := ih (push st t)
      have := push_len st t
      simp only [List.foldl_cons, List.length_cons]
      omega
  have h := this l []
  simpa [redS] using h
theorem red_len (l : List Int) : (red l).length ≤ l.length := by
  rw [red, List.length_reverse]
  exact redS_len l

/-- no two neighbours undo each other -/
def Good : List Int → Prop
  | [] => True
  | [_] => True
  | x :: y :: st => y ≠ -x ∧ Good (y :: st)
theorem good_tail {x : Int} {st : List Int} (h : Good (x :: st)) : Good st := by
  cases st with
  | nil => trivial
  | cons y st => exact h.2
theorem good_push {st : List Int} (h : Good st) (t : Int) : Good (push st t) := by
  cases st with
  | nil => trivial
  | cons x st =>
    simp only [push]
    split
    · exact good_tail h
    · rename_i hne
      exact ⟨hne, h⟩
theorem redS_good (l : List Int) : Good (redS l) := by
  have : ∀ (l st : List Int), Good st → Good (l.foldl push st) := fun l => by
    induction l with
    | nil => intro st h; exact h
    | cons t l ih => intro st h; exact ih _ (good_push h t)
  exact this l [] trivial
theorem redS_rev (st : List Int) (h : Good st) : redS st.reverse = st := by
  induction st with
  | nil => rfl
  | cons x st ih =>
    have hs := ih (good_tail h)
    unfold redS at hs ⊢
    rw [List.reverse_cons, List.foldl_append, hs]
    cases st with
    | nil => rfl
    | cons y st =>
      simp only [List.foldl_cons, List.foldl_nil, push]
      rw [if_neg h.1]
theorem red_red (l : List Int) : red (red l) = red l := by
  unfold red
  rw [redS_rev _ (redS_good l)]
theorem push_mem {st : List Int} {t u : Int} (h : u ∈ push st t) : u = t ∨ u ∈ st := by
  cases st with
  | nil => simp [push] at h; exact .inl h
  | cons x st =>
    simp only [push] at h
    split at h
    · exact .inr (List.mem_cons_of_mem _ h)
    · simp at h
      rcases h with h | h | h
      · exact .inl h
      · exact .inr (by simp [h])
      · exact .inr (by simp [h])
theorem red_mem {l : List Int} {u : Int} (h : u ∈ red l) : u ∈ l := by
  have : ∀ (l st : List Int), u ∈ l.foldl push st → u ∈ l ∨ u ∈ st := fun l => by
    induction l with
    | nil => intro st h; exact .inr h
    | cons t l ih =>
      intro st h
      rcases ih _ h with h | h
      · exact .inl (by simp [h])
      · rcases push_mem h with h | h
        · exact .inl (by simp [h])
        · exact .inr h
  rw [red, List.mem_reverse] at h
  rcases this l [] h with h | h
  · exact h
  · simp at h
theorem red_steps {l : List Int} (h : ∀ t ∈ l, IsStep t) : ∀ t ∈ red l, IsStep t := fun t ht => h t (red_mem ht)
theorem opp_steps {l : List Int} (h : ∀ t ∈ l, IsStep t) : ∀ t ∈ opp l, IsStep t := fun t ht => by
  simp only [opp, List.mem_reverse, List.mem_map] at ht
  obtain ⟨u, hu, rfl⟩ := ht
  obtain ⟨h0, h1, h2⟩ := h u hu
  exact ⟨by omega, by omega, by omega⟩
end Tm
