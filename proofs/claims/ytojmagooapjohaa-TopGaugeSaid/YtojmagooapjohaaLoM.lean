/- Plain mathematics of sums of loops: how paths are ordered, and what the plain form of a list of terms is; no Go.
Conditions: none. -/
import Derived.Test.YtojmagooapjohaaMathA
import Derived.RowKit
set_option autoImplicit false
namespace Lm
set_option linter.unusedVariables false
set_option linter.unusedSimpArgs false
open Tm

def cmpI (x y : Int) : Int := if x < y then -1 else if y < x then 1 else 0
def cmpL : List Int → List Int → Int
  | [], [] => 0
  | [], _ :: _ => -1
  | _ :: _, [] => 1
  | x :: l, y :: m => if cmpI x y = 0 then cmpL l m else cmpI x y
theorem cmpI_rng (x y : Int) : cmpI x y = -1 ∨ cmpI x y = 0 ∨ cmpI x y = 1 := by unfold cmpI; split <;> (try split) <;> simp
theorem cmpL_rng (l m : List Int) : cmpL l m = -1 ∨ cmpL l m = 0 ∨ cmpL l m = 1 := by
  induction l generalizing m with
  | nil => cases m <;> simp [cmpL]
  | cons x l ih =>
    cases m with
    | nil => simp [cmpL]
    | cons y m =>
      unfold cmpL
      split
      · exact ih m
      · exact cmpI_rng x y
theorem cmpI_zero {x y : Int} : cmpI x y = 0 ↔ x = y := by
  unfold cmpI
  constructor
  · intro h; split at h
    · omega
    · split at h <;> omega
  · rintro rfl; simp
theorem cmpI_neg (x y : Int) : cmpI y x = -cmpI x y := by
  unfold cmpI
  split <;> split <;> omega
theorem cmpL_neg (l m : List Int) : cmpL m l = -cmpL l m := by
  induction l generalizing m with
  | nil => cases m <;> simp [cmpL]
  | cons x l ih =>
    cases m with
    | nil => simp [cmpL]
    | cons y m =>
      unfold cmpL
      by_cases h : cmpI x y = 0
      · rw [if_pos h, if_pos (by rw [cmpI_neg, h]; rfl), ih m]
      · rw [if_neg h, if_neg (by rw [cmpI_neg]; omega), cmpI_neg]
theorem cmpL_zero {l m : List Int} : cmpL l m = 0 ↔ l = m := by
  induction l generalizing m with
  | nil => cases m <;> simp [cmpL]
  | cons x l ih =>
    cases m with
    | nil => simp [cmpL]
    | cons y m =>
      unfold cmpL
      by_cases h : cmpI x y = 0
      · rw [if_pos h, ih, cmpI_zero.1 h]; simp
      · rw [if_neg h]
        refine ⟨fun e => absurd e h, fun e => ?_⟩
        simp only [List.cons.injEq] at e
        exact absurd (cmpI_zero.2 e.1) h
theorem cmpI_lt {x y : Int} : cmpI x y < 0 ↔ x < y := by
  unfold cmpI
  split
  · simp; assumption
  · split <;> simp <;> omega
theorem cmpL_trans {l m k : List Int} (h1 : cmpL l m < 0) (h2 : cmpL m k < 0) : cmpL l k < 0 := by
  induction l generalizing m k with
  | nil =>
    cases k with
    | nil => cases m <;> simp [cmpL] at h1 h2
    | cons z k => simp [cmpL]
  | cons x l ih =>
    cases m with
    | nil => simp [cmpL] at h1
    | cons y m =>
      cases k with
      | nil => simp [cmpL] at h2
      | cons z k =>
        simp only [cmpL] at h1 h2 ⊢
        by_cases a : cmpI x y = 0
        · obtain rfl := cmpI_zero.1 a
          rw [if_pos a] at h1
          by_cases b : cmpI x z = 0
          · rw [if_pos b] at h2 ⊢
            exact ih h1 h2
          · rw [if_neg b] at h2 ⊢
            exact h2
        · rw [if_neg a] at h1
          have a1 := cmpI_lt.1 h1
          by_cases b : cmpI y z = 0
          · obtain rfl := cmpI_zero.1 b
            rw [if_neg a]
            exact h1
          · rw [if_neg b] at h2
            have b1 := cmpI_lt.1 h2
            have c1 : x < z := by omega
            rw [if_neg (by rw [cmpI_zero]; omega)]
            exact cmpI_lt.2 c1
theorem cmpL_ntrans {l m k : List Int} (h1 : ¬ cmpL l m < 0) (h2 : ¬ cmpL m k < 0) : ¬ cmpL l k < 0 := by
  intro h
  have r1 := cmpL_rng l m
  have r2 := cmpL_rng m k
  have n1 := cmpL_neg l m
  have n2 := cmpL_neg m k
  by_cases a : cmpL l m = 0
  · obtain rfl := cmpL_zero.1 a; exact h2 h
  · by_cases b : cmpL m k = 0
    · obtain rfl := cmpL_zero.1 b; exact h1 h
    · have := cmpL_trans (l := k) (m := m) (k := l) (by omega) (by omega)
      have n3 := cmpL_neg l k
      omega
theorem cmpL_irr (l : List Int) : cmpL l l = 0 := cmpL_zero.2 rfl
/-- the one of two lists that comes first -/
def mnL (l m : List Int) : List Int := if cmpL l m ≤ 0 then l else m
/-- the plain path -/
def plL (l : List Int) : List Int := mnL (red l) (opp (red l))

theorem opp_opp (l : List Int) : opp (opp l) = l := by simp [opp, Function.comp_def]
theorem mnL_comm (l m : List Int) : mnL l m = mnL m l := by
  unfold mnL
  have n := cmpL_neg l m
  have r := cmpL_rng l m
  by_cases h : cmpL l m = 0
  · obtain rfl := cmpL_zero.1 h; rfl
  · split <;> split <;> first | rfl | omega
theorem mnL_mem (l m : List Int) : mnL l m = l ∨ mnL l m = m := by unfold mnL; split <;> simp

/-! ### terms -/
abbrev Trm := Int × List Int
def ad (x y : Int) : Int := Go.RowKit.wrap64 (x + y)
/-- a term is put into a list of terms whose paths ascend -/
def ins (t : Trm) : List Trm → List Trm
  | [] => [t]
  | s :: r => if cmpL s.2 t.2 < 0 then s :: ins t r else if s.2 = t.2 then (ad s.1 t.1, s.2) :: r else t :: s :: r
def coll (ts : List Trm) : List Trm := ts.foldl (fun o t => ins t o) []
theorem coll_take (ts : List Trm) (k : Nat) (hk : k < ts.length) : coll (ts.take (k + 1)) = ins ts[k] (coll (ts.take k)) := by
  unfold coll
  rw [List.take_succ_eq_append_getElem hk, List.foldl_append]
  rfl
/-- the paths ascend -/
def Asc (o : List Trm) : Prop := o.Pairwise fun s t => cmpL s.2 t.2 < 0
theorem ins_mem {t s : Trm} {o : List Trm} (h : s ∈ ins t o) : s.2 = t.2 ∨ s ∈ o := by
  induction o with
  | nil => simp [ins] at h; exact .inl (by rw [h])
  | cons x r ih =>
    simp only [ins] at h
    split at h
    · simp only [List.mem_cons] at h ⊢
      rcases h with h | h
      · exact .inr (.inl h)
      · rcases ih h with h | h
        · exact .inl h
        · exact .inr (.inr h)
    · split at h
      · rename_i e
        simp only [List.mem_cons] at h ⊢
        rcases h with h | h
        · exact .inl (by rw [h]; exact e)
        · exact .inr (.inr h)
      · simp only [List.mem_cons] at h ⊢
        rcases h with h | h | h
        · exact .inl (by rw [h])
        · exact .inr (.inl h)
        · exact .inr (.inr h)
theorem ins_asc {t : Trm} {o : List Trm} (h : Asc o) : Asc (ins t o) := by
  induction o with
  | nil => simp [ins, Asc]
  | cons x r ih =>
    unfold Asc at h ih ⊢
    rw [List.pairwise_cons] at h
    simp only [ins]
    split
    · rename_i hlt
      rw [List.pairwise_cons]
      refine ⟨fun s hs => ?_, ih h.2⟩
      rcases ins_mem hs with e | e
      · rw [e]; exact hlt
      · exact h.1 s e
    · split
      · rw [List.pairwise_cons]; exact ⟨fun s hs => h.1 s hs, h.2⟩
      · rename_i h1 h2
        have h3 : cmpL t.2 x.2 < 0 := by
          have n := cmpL_neg x.2 t.2
          have r := cmpL_rng x.2 t.2
          have z : cmpL x.2 t.2 ≠ 0 := fun e => h2 (cmpL_zero.1 e)
          omega
        rw [List.pairwise_cons, List.pairwise_cons]
        refine ⟨fun s hs => ?_, h⟩
        rcases List.mem_cons.1 hs with e | e
        · rw [e]; exact h3
        · exact cmpL_trans h3 (h.1 s e)
theorem coll_asc (ts : List Trm) : Asc (coll ts) := by
  have : ∀ (ts o : List Trm), Asc o → Asc (ts.foldl (fun o t => ins t o) o) := fun ts => by
    induction ts with
    | nil => intro o h; exact h
    | cons t r ih => intro o h; exact ih _ (ins_asc h)
  exact this ts [] (by simp [Asc])
/-- the coefficient of a path in a list -/
def look (p : List Int) : List Trm → Option Int
  | [] => none
  | s :: r => if s.2 = p then some s.1 else look p r
theorem look_none_of {p : List Int} {o : List Trm} (h : ∀ s ∈ o, s.2 ≠ p) : look p o = none := by
  induction o with
  | nil => rfl
  | cons x r ih =>
    simp only [look]
    rw [if_neg (h x (by simp))]
    exact ih fun s hs => h s (by simp [hs])
theorem look_ins (p : List Int) (t : Trm) (o : List Trm) (h : Asc o) : look p (ins t o) = if t.2 = p then some (match look p o with | none => t.1 | some c => ad c t.1) else look p o := by
  induction o with
  | nil => simp [ins, look]
  | cons x r ih =>
    unfold Asc at h
    rw [List.pairwise_cons] at h
    simp only [ins]
    split
    · rename_i hlt
      simp only [look]
      rw [ih h.2]
      by_cases e : t.2 = p
      · rw [if_pos e]
        have hne : ¬ x.2 = p := fun e' => by rw [e, e', cmpL_irr] at hlt; omega
        rw [if_neg hne, if_neg hne, if_pos e]
      · rw [if_neg e, if_neg e]
    · split
      · rename_i h1 h2
        simp only [look]
        by_cases e : t.2 = p
        · rw [if_pos e, if_pos (h2.trans e), if_pos (h2.trans e)]
        · rw [if_neg e]
          rw [if_neg (by rw [h2]; exact e), if_neg (by rw [h2]; exact e)]
      · rename_i h1 h2
        simp only [look]
        have h3 : cmpL t.2 x.2 < 0 := by
          have n := cmpL_neg x.2 t.2
          have r := cmpL_rng x.2 t.2
          have z : cmpL x.2 t.2 ≠ 0 := fun e => h2 (cmpL_zero.1 e)
          omega
        by_cases e : t.2 = p
        · rw [if_pos e, if_pos e, if_neg (by rw [← e]; exact h2)]
          rw [look_none_of fun s hs e' => ?_]
          have := cmpL_trans h3 (h.1 s hs)
          rw [e, e', cmpL_irr] at this
          omega
        · rw [if_neg e, if_neg e]
theorem look_mem {p : List Int} {c : Int} {o : List Trm} (h : Asc o) : look p o = some c ↔ (c, p) ∈ o := by
  induction o with
  | nil => simp [look]
  | cons x r ih =>
    unfold Asc at h ih
    rw [List.pairwise_cons] at h
    simp only [look]
    by_cases e : x.2 = p
    · rw [if_pos e]
      simp only [Option.some.injEq, List.mem_cons]
      constructor
      · intro hc; left; rw [← hc, ← e]
      · rintro (hc | hc)
        · rw [← hc]
        · have := h.1 _ hc
          simp only [e, cmpL_irr] at this
          omega
    · rw [if_neg e, ih h.2]
      simp only [List.mem_cons]
      constructor
      · exact .inr
      · rintro (hc | hc)
        · exact absurd (by rw [← hc]) e
        · exact hc
/-- the plain form -/
def plT (ts : List Trm) : List Trm := (coll ts).filter fun t => t.1 ≠ 0
theorem plT_asc (ts : List Trm) : Asc (plT ts) := List.Pairwise.filter _ (coll_asc ts)
theorem plT_mem {ts : List Trm} {t : Trm} : t ∈ plT ts ↔ look t.2 (coll ts) = some t.1 ∧ t.1 ≠ 0 := by
  unfold plT
  rw [List.mem_filter, look_mem (coll_asc ts)]
  simp
theorem asc_eq {o o' : List Trm} (h : Asc o) (h' : Asc o') (hm : ∀ t, t ∈ o ↔ t ∈ o') : o = o' := by
  induction o generalizing o' with
  | nil =>
    cases o' with
    | nil => rfl
    | cons y r => have := (hm y).2 (by simp); simp at this
  | cons x r ih =>
    cases o' with
    | nil => have := (hm x).1 (by simp); simp at this
    | cons y r' =>
      unfold Asc at h h'
      rw [List.pairwise_cons] at h h'
      have irr : ∀ {s : Trm}, ¬ cmpL s.2 s.2 < 0 := fun {s} => by rw [cmpL_irr]; omega
      have hxy : x = y := by
        rcases List.mem_cons.1 ((hm x).1 (by simp)) with e | e
        · exact e
        · rcases List.mem_cons.1 ((hm y).2 (by simp)) with e' | e'
          · exact e'.symm
          · exact absurd (cmpL_trans (h.1 y e') (h'.1 x e)) irr
      subst hxy
      congr 1
      refine ih h.2 h'.2 fun t => ⟨fun ht => ?_, fun ht => ?_⟩
      · rcases List.mem_cons.1 ((hm t).1 (by simp [ht])) with e | e
        · subst e; exact absurd (h.1 _ ht) irr
        · exact e
      · rcases List.mem_cons.1 ((hm t).2 (by simp [ht])) with e | e
        · subst e; exact absurd (h'.1 _ ht) irr
        · exact e
theorem asc_of_perm {o d : List Trm} (hp : d.Perm o) (hd : o.Pairwise fun s t => s.2 ≠ t.2) (hs : d.Pairwise fun s t => ¬ cmpL t.2 s.2 < 0) : Asc d := by
  have hd' : d.Pairwise fun s t => s.2 ≠ t.2 := (hp.pairwise_iff fun h => h.symm).2 hd
  unfold Asc
  exact (hd'.and hs).imp fun {s t} ⟨h1, h2⟩ => by
    have n := cmpL_neg t.2 s.2
    have r := cmpL_rng t.2 s.2
    have z : cmpL t.2 s.2 ≠ 0 := fun e => h1 (cmpL_zero.1 e).symm
    omega
theorem coll_path {ts : List Trm} {s : Trm} (h : s ∈ coll ts) : ∃ t ∈ ts, s.2 = t.2 := by
  have : ∀ (ts o : List Trm), s ∈ ts.foldl (fun o t => ins t o) o → (∃ t ∈ ts, s.2 = t.2) ∨ s ∈ o := fun ts => by
    induction ts with
    | nil => intro o h; exact .inr h
    | cons t r ih =>
      intro o h
      rcases ih _ h with ⟨t', ht', e⟩ | h
      · exact .inl ⟨t', by simp [ht'], e⟩
      · rcases ins_mem h with e | e
        · exact .inl ⟨t, by simp, e⟩
        · exact .inr e
  rcases this ts [] h with h | h
  · exact h
  · simp at h
theorem ins_len (t : Trm) (o : List Trm) : (ins t o).length ≤ o.length + 1 := by
  induction o with
  | nil => simp [ins]
  | cons x r ih => simp only [ins]; split <;> (try split) <;> simp <;> omega
theorem coll_len (ts : List Trm) : (coll ts).length ≤ ts.length := by
  have : ∀ (ts o : List Trm), (ts.foldl (fun o t => ins t o) o).length ≤ o.length + ts.length := fun ts => by
    induction ts with
    | nil => intro o; simp
    | cons t r ih => intro o; have := ih (ins t o); have := ins_len t o; simp only [List.foldl_cons, List.length_cons]; omega
  have h := this ts []
  simpa [coll] using h
theorem plT_len (ts : List Trm) : (plT ts).length ≤ ts.length := Nat.le_trans (List.length_filter_le _ _) (coll_len ts)

/-! ### paths one behind the other -/
/-- a stack (its last step first) and the path behind it: what is left where they meet -/
def jn : List Int → List Int → List Int
  | [], q => q.reverse
  | x :: st, [] => x :: st
  | x :: st, y :: q => if x = -y then jn st q else (y :: q).reverse ++ x :: st
theorem good_fold {st : List Int} (h : Good st) (l : List Int) : Good (l.foldl push st) := by
  induction l generalizing st with
  | nil => exact h
  | cons t l ih => exact ih (good_push h t)
/-- steps that do not undo their neighbours are laid on one by one -/
theorem fold_plain {st q : List Int} (h : Good (q.reverse ++ st)) : q.foldl push st = q.reverse ++ st := by
  induction q generalizing st with
  | nil => rfl
  | cons y q ih =>
    have hp : push st y = y :: st := by
      cases st with
      | nil => rfl
      | cons x st =>
        simp only [push]
        rw [if_neg]
        have : ∀ (a : List Int), Good (a ++ y :: x :: st) → x ≠ -y := fun a => by
          induction a with
          | nil => intro h; exact h.1
          | cons b a ih => intro h; exact ih (good_tail (x := b) h)
        refine this q.reverse ?_
        simpa using h
    rw [List.foldl_cons, hp, ih (by simpa using h)]
    simp
theorem good_app {a b : List Int} (h : Good (a ++ b)) : Good b := by
  induction a with
  | nil => exact h
  | cons x a ih => exact ih (good_tail (x := x) h)
theorem good_front {a b : List Int} (h : Good (a ++ b)) : Good a := by
  induction a with
  | nil => trivial
  | cons x a ih =>
    cases a with
    | nil => trivial
    | cons y a => exact ⟨h.1, ih h.2⟩
theorem good_glue {a b : List Int} {x y : Int} (h1 : Good (a ++ [y])) (h2 : Good (x :: b)) (hne : x ≠ -y) : Good (a ++ y :: x :: b) := by
  induction a with
  | nil => exact ⟨hne, h2⟩
  | cons z a ih =>
    cases a with
    | nil => exact ⟨h1.1, ih trivial⟩
    | cons z' a => exact ⟨h1.1, ih h1.2⟩
theorem good_neg {l : List Int} (h : Good l) : Good l.reverse := by
  induction l with
  | nil => trivial
  | cons x l ih =>
    cases l with
    | nil => trivial
    | cons y l =>
      have h1 := ih h.2
      rw [List.reverse_cons, List.reverse_cons, List.append_assoc]
      rw [List.reverse_cons] at h1
      exact good_glue h1 (show Good [x] from trivial) (fun e => h.1 (by omega))
theorem jn_fold {st q : List Int} (hs : Good st) (hq : Good q.reverse) : q.foldl push st = jn st q := by
  induction st generalizing q with
  | nil => rw [fold_plain (by simpa using hq)]; simp [jn]
  | cons x st ih =>
    cases q with
    | nil => rfl
    | cons y q =>
      simp only [jn]
      by_cases e : x = -y
      · rw [if_pos e, List.foldl_cons]
        have hp : push (x :: st) y = st := by simp only [push]; rw [if_pos e]
        rw [hp]
        refine ih (good_tail hs) ?_
        rw [List.reverse_cons] at hq
        exact good_front hq
      · rw [if_neg e]
        refine fold_plain ?_
        rw [List.reverse_cons, List.append_assoc]
        rw [List.reverse_cons] at hq
        exact good_glue hq hs e
theorem push_push {st : List Int} (h : Good st) (t : Int) : push (push st (-t)) t = st := by
  cases st with
  | nil => simp [push]
  | cons x st =>
    simp only [push]
    by_cases e : x = - -t
    · rw [if_pos e]
      cases st with
      | nil => simp [push]; omega
      | cons y st =>
        simp only [push]
        rw [if_neg (by have := h.1; omega)]
        congr 1; omega
    · rw [if_neg e]; simp [push]
theorem fold_red {st : List Int} (h : Good st) (l : List Int) : (red l).foldl push st = l.foldl push st := by
  suffices H : ∀ (n : Nat) (l : List Int), l.length = n → (red l).foldl push st = l.foldl push st from H _ l rfl
  intro n
  induction n with
  | zero => intro l hl; rw [List.length_eq_zero_iff.1 hl]; rfl
  | succ n ih =>
    intro l hl
    obtain ⟨m, t, rfl⟩ : ∃ m t, l = m ++ [t] := ⟨l.dropLast, l.getLast (by intro e; simp [e] at hl), (List.dropLast_concat_getLast _).symm⟩
    have hm : m.length = n := by simpa using hl
    have e := ih m hm
    have hr : redS (m ++ [t]) = push (redS m) t := by unfold redS; rw [List.foldl_append]; rfl
    rw [List.foldl_append, List.foldl_cons, List.foldl_nil, ← e]
    unfold red
    rw [hr]
    cases hS : redS m with
    | nil => simp [push]
    | cons x r =>
      simp only [push]
      by_cases hx : x = -t
      · rw [if_pos hx, hx, List.reverse_cons, List.foldl_append]
        exact (push_push (good_fold h _) t).symm
      · rw [if_neg hx, List.reverse_cons, List.foldl_append]
        rfl
theorem redS_app (a b : List Int) : redS (a ++ b) = b.foldl push (redS a) := by unfold redS; rw [List.foldl_append]
theorem redS_red (a : List Int) : redS (red a) = redS a := by rw [red, redS_rev _ (redS_good a)]
/-- two reduced paths, joined -/
theorem jn_red (a b : List Int) : jn (redS a) (red b) = redS (a ++ b) := by
  rw [← jn_fold (redS_good a) (by rw [red, List.reverse_reverse]; exact redS_good b), fold_red (redS_good a), redS_app]
theorem red_app (a b : List Int) : red (red a ++ red b) = red (a ++ b) := by
  unfold red
  have : redS ((redS a).reverse ++ (redS b).reverse) = redS (a ++ b) := by
    rw [redS_app, show redS (redS a).reverse = redS a from redS_red a, redS_app]
    exact fold_red (redS_good a) b
  rw [this]
theorem opp_app (a b : List Int) : opp (a ++ b) = opp b ++ opp a := by simp [opp]
theorem good_opp {l : List Int} (h : Good l) : Good (l.map fun t => -t) := by
  induction l with
  | nil => trivial
  | cons x l ih =>
    cases l with
    | nil => trivial
    | cons y l => exact ⟨by show -y ≠ - -x; have := h.1; omega, ih h.2⟩
theorem good_redS {l : List Int} (h : Good l.reverse) : red l = l := by
  unfold red
  have := redS_rev l.reverse h
  rw [List.reverse_reverse] at this
  rw [this, List.reverse_reverse]
theorem redS_opp (l : List Int) : red (opp l) = opp (red l) := by
  suffices H : ∀ (n : Nat) (l : List Int), l.length = n → red (opp l) = opp (red l) from H _ l rfl
  intro n
  induction n with
  | zero => intro l hl; rw [List.length_eq_zero_iff.1 hl]; rfl
  | succ n ih =>
    intro l hl
    obtain ⟨m, t, rfl⟩ : ∃ m t, l = m ++ [t] := ⟨l.dropLast, l.getLast (by intro e; simp [e] at hl), (List.dropLast_concat_getLast _).symm⟩
    have hm : m.length = n := by simpa using hl
    have e := ih m hm
    have e1 : opp (m ++ [t]) = [-t] ++ opp m := by simp [opp]
    have hr : red (m ++ [t]) = (push (redS m) t).reverse := by unfold red redS; rw [List.foldl_append]; rfl
    rw [e1, ← red_app, e, show red [-t] = [-t] from rfl, hr]
    have hg := redS_good m
    have hrm : red m = (redS m).reverse := rfl
    rw [hrm]
    cases hS : redS m with
    | nil => rfl
    | cons x r =>
      rw [hS] at hg
      simp only [push]
      by_cases hx : x = -t
      · rw [if_pos hx]
        have hx2 : -x = t := by omega
        have e2 : opp (x :: r).reverse = t :: opp r.reverse := by simp [opp, hx2]
        rw [e2]
        have hgo : Good (opp r.reverse).reverse := by
          simp only [opp, List.reverse_reverse]
          rw [List.map_reverse]
          exact good_neg (good_opp (good_tail hg))
        unfold red redS
        rw [List.cons_append, List.nil_append, List.foldl_cons, List.foldl_cons]
        have hp : push (push [] (-t)) t = [] := by simp [push]
        rw [hp]
        exact good_redS hgo
      · rw [if_neg hx]
        have e2 : [-t] ++ opp (x :: r).reverse = opp (t :: x :: r).reverse := by simp [opp]
        rw [e2]
        refine good_redS ?_
        simp only [opp, List.reverse_reverse]
        rw [List.map_reverse]
        exact good_neg (good_opp (show Good (t :: x :: r) from ⟨hx, hg⟩))
theorem plL_opp (l : List Int) : plL (opp l) = plL l := by unfold plL; rw [redS_opp, opp_opp, mnL_comm]
theorem red_plL (l : List Int) : red (plL l) = plL l := by
  unfold plL
  rcases mnL_mem (red l) (opp (red l)) with h | h
  · rw [h, red_red]
  · rw [h, redS_opp, red_red]
theorem plL_plL (l : List Int) : plL (plL l) = plL l := by
  unfold plL
  rcases mnL_mem (red l) (opp (red l)) with h | h
  · rw [h, red_red, h]
  · rw [h, redS_opp, red_red, opp_opp, mnL_comm, h]
theorem plL_red (l : List Int) : plL (red l) = plL l := by unfold plL; rw [red_red]
theorem plL_len (l : List Int) : (plL l).length = (red l).length := by
  unfold plL
  rcases mnL_mem (red l) (opp (red l)) with h | h <;> rw [h]
  exact opp_len _
theorem plL_steps {l : List Int} (h : ∀ t ∈ l, IsStep t) : ∀ t ∈ plL l, IsStep t := by
  unfold plL
  rcases mnL_mem (red l) (opp (red l)) with e | e <;> rw [e]
  · exact red_steps h
  · exact opp_steps (red_steps h)
/-- two paths, joined -/
def jnL (p q : List Int) : List Int := (jn p.reverse q).reverse
theorem jn_step {p q : List Int} {k : Nat} (hp : k < p.length) (hq : k < q.length) (h : p[p.length - 1 - k] = -q[k]) : jn (p.reverse.drop k) (q.drop k) = jn (p.reverse.drop (k + 1)) (q.drop (k + 1)) := by
  have hr : k < p.reverse.length := by simpa using hp
  rw [List.drop_eq_getElem_cons hr, List.drop_eq_getElem_cons hq]
  simp only [jn]
  rw [List.getElem_reverse, if_pos h]
theorem jn_stop {p q : List Int} {k : Nat} (h : p.length ≤ k ∨ q.length ≤ k ∨ ∃ (hp : k < p.length) (hq : k < q.length), p[p.length - 1 - k] ≠ -q[k]) : (jn (p.reverse.drop k) (q.drop k)).reverse = p.take (p.length - k) ++ q.drop k := by
  have e : (p.reverse.drop k).reverse = p.take (p.length - k) := by rw [List.drop_reverse, List.reverse_reverse]
  rcases h with h | h | ⟨hp, hq, h⟩
  · have : p.reverse.drop k = [] := List.drop_eq_nil_of_le (by simpa using h)
    rw [← e, this]
    simp [jn]
  · rw [← e, List.drop_eq_nil_of_le h]
    cases p.reverse.drop k <;> simp [jn]
  · rw [← e]
    have hr : k < p.reverse.length := by simpa using hp
    rw [List.drop_eq_getElem_cons hr, List.drop_eq_getElem_cons hq]
    simp only [jn]
    rw [List.getElem_reverse, if_neg h]
    simp
end Lm

/- Plain mathematics of sums of traces: the denominators of traces along short paths, and sums over a common denominator; no Go.
Conditions: none. -/
set_option autoImplicit false
namespace Lm
set_option linter.unusedVariables false
set_option linter.unusedSimpArgs false
open Tm Um

/-! ### denominators of traces -/
theorem sq8 (x : Int) : (x % 2 = 0 ∧ (x * x) % 4 = 0) ∨ (x % 2 = 1 ∧ (x * x) % 8 = 1) := by
  rcases Int.emod_two_eq x with h | h
  · refine .inl ⟨h, ?_⟩
    obtain ⟨k, rfl⟩ : ∃ k, x = 2 * k := ⟨x / 2, by omega⟩
    rw [show 2 * k * (2 * k) = 4 * (k * k) by grind]
    omega
  · refine .inr ⟨h, ?_⟩
    obtain ⟨k, rfl⟩ : ∃ k, x = 2 * k + 1 := ⟨x / 2, by omega⟩
    have e : (2 * k + 1) * (2 * k + 1) = 4 * (k * (k + 1)) + 1 := by grind
    have e2 : (k * (k + 1)) % 2 = 0 := by
      rcases Int.emod_two_eq k with h | h
      · obtain ⟨m, rfl⟩ : ∃ m, k = 2 * m := ⟨k / 2, by omega⟩
        rw [show 2 * m * (2 * m + 1) = 2 * (m * (2 * m + 1)) by grind]
        omega
      · obtain ⟨m, rfl⟩ : ∃ m, k = 2 * m + 1 := ⟨k / 2, by omega⟩
        rw [show (2 * m + 1) * (2 * m + 1 + 1) = 2 * ((2 * m + 1) * (m + 1)) by grind]
        omega
    rw [e]
    omega
theorem V.four {x : Q} (h : V x) : ¬ (4 : Int) ∣ x.n := by
  intro hd
  have hl := h.u.len
  obtain ⟨k, hk⟩ := hd
  have e : x.n * x.n = 16 * (k * k) := by rw [hk]; grind
  rw [e] at hl
  have sa := sq8 x.a
  have sb := sq8 x.b
  have sc := sq8 x.c
  have sd := sq8 x.d
  have hp := h.prim
  have hg := dvd_g x 2
  generalize x.a * x.a = A at *
  generalize x.b * x.b = B at *
  generalize x.c * x.c = C at *
  generalize x.d * x.d = D at *
  generalize k * k = K at *
  have all : x.a % 2 = 0 ∧ x.b % 2 = 0 ∧ x.c % 2 = 0 ∧ x.d % 2 = 0 := by omega
  have h2 := hg (by omega) (by omega) (by omega) (by omega) (by omega)
  rw [hp] at h2
  omega
theorem tr_odd {x : Q} (h : V x) : (tr x).2 % 2 = 1 ∧ (tr x).2 ∣ x.n := by
  have hp := rat_part (2 * x.a) x.n
  have hpos := h.u.pos
  have h4 := V.four h
  have hdv : ((2 * x.a).natAbs.gcd x.n.natAbs : Int) ∣ x.n := Int.ofNat_dvd_left.2 (Nat.gcd_dvd_right _ _)
  unfold tr
  refine ⟨?_, ⟨_, by rw [Int.mul_comm]; exact hp.2⟩⟩
  have h2 : x.n % 2 = 0 → (2 : Int) ∣ ((2 * x.a).natAbs.gcd x.n.natAbs : Int) := fun e => by
    have : 2 ∣ (2 * x.a).natAbs.gcd x.n.natAbs := Nat.dvd_gcd (by omega) (by omega)
    omega
  generalize ((2 * x.a).natAbs.gcd x.n.natAbs : Int) = G at *
  generalize (rat (2 * x.a) x.n).2 = d at *
  rcases Int.emod_two_eq d with e | e
  · exfalso
    obtain ⟨m, rfl⟩ : ∃ m, d = 2 * m := ⟨d / 2, by omega⟩
    have e1 : x.n = 2 * (G * m) := by rw [hp.2]; grind
    obtain ⟨j, rfl⟩ := h2 (by omega)
    exact h4 ⟨j * m, by rw [hp.2]; grind⟩
  · exact e
theorem n_thirty {x : Q} (h : V x) (h5 : x.n ≤ 5) : x.n ∣ 30 := by
  have hp := h.u.pos
  have h4 := V.four h
  have : x.n = 1 ∨ x.n = 2 ∨ x.n = 3 ∨ x.n = 4 ∨ x.n = 5 := by omega
  rcases this with e | e | e | e | e <;> rw [e] at h4 ⊢ <;> first | decide | (exact absurd (by decide) h4)
theorem fm_thirty (l : List Q) (hl : ∀ x ∈ l, V x ∧ x.n ≤ 5) : (fm l).n ∣ 30 ^ l.length := by
  induction l with
  | nil => exact ⟨1, by decide⟩
  | cons x l ih =>
    rw [fm_cons, List.length_cons, Int.pow_succ, Int.mul_comm (30 ^ _)]
    have := n_thirty (hl x (by simp)).1 (hl x (by simp)).2
    exact Int.mul_dvd_mul this (ih fun y hy => hl y (by simp [hy]))
def MM : Int := 2562890625
theorem odd_dvd {d : Int} (h1 : d % 2 = 1) (h2 : d ∣ 30 ^ 8) : d ∣ MM := by
  have h3 : d.natAbs ∣ 2 ^ 8 * 2562890625 := by
    have := Int.natAbs_dvd_natAbs.2 h2
    simpa using this
  have hc : Nat.Coprime d.natAbs (2 ^ 8) := by
    refine Nat.Coprime.pow_right _ ?_
    have hg := Nat.gcd_dvd_right d.natAbs 2
    have hg1 := Nat.gcd_dvd_left d.natAbs 2
    have hle := Nat.le_of_dvd (by decide) hg
    have : Nat.gcd d.natAbs 2 = 0 ∨ Nat.gcd d.natAbs 2 = 1 ∨ Nat.gcd d.natAbs 2 = 2 := by omega
    rcases this with e | e | e
    · rw [e] at hg; omega
    · exact e
    · rw [e] at hg1; omega
  have := hc.dvd_of_dvd_mul_left h3
  exact Int.natAbs_dvd_natAbs.1 (by simpa [MM] using this)
/-- a number that may be added: its denominator divides the common one -/
structure Rt (k : Int) (r : Int × Int) : Prop where
  pos : 0 < r.2
  dvd : r.2 ∣ MM
  lo : -(k * r.2) ≤ r.1
  hi : r.1 ≤ k * r.2
theorem tr_rt (l : List Q) (hl : ∀ x ∈ l, V x ∧ x.n ≤ 5) (h8 : l.length ≤ 8) : Rt 2 (tr (low (fm l))) := by
  have hv := few_V l hl h8
  have ho := tr_odd hv
  have hb := hv.le_two
  have hpos := hv.u.pos
  have ha := rat_abs (2 * (low (fm l)).a) (low (fm l)).n 2 hpos (by omega) (by omega)
  have h30 : (low (fm l)).n ∣ 30 ^ 8 := by
    have h1 : (low (fm l)).n ∣ (fm l).n := ⟨_, by rw [Int.mul_comm]; exact (low_part (fm l)).2.2.2.2⟩
    have h2 := fm_thirty l hl
    have h3 : (30 : Int) ^ l.length ∣ 30 ^ 8 := ⟨30 ^ (8 - l.length), by rw [← Int.pow_add]; congr 1; omega⟩
    exact Int.dvd_trans h1 (Int.dvd_trans h2 h3)
  exact ⟨rat_pos _ _ hpos, odd_dvd ho.1 (Int.dvd_trans ho.2 h30), by have := ha.1; unfold tr; omega, ha.2⟩

/-! ### sums -/
def wt (r : Int × Int) : Int := r.1 * (MM / r.2)
def sumR (l : List (Int × Int)) : Int := (l.map wt).sum
theorem sumR_snoc (l : List (Int × Int)) (r : Int × Int) : sumR (l ++ [r]) = sumR l + wt r := by simp [sumR, List.sum_append]
theorem sumR_take (l : List (Int × Int)) (k : Nat) (hk : k < l.length) : sumR (l.take (k + 1)) = sumR (l.take k) + wt l[k] := by
  rw [List.take_succ_eq_append_getElem hk, sumR_snoc]
def plusR (a b : Int × Int) : Int × Int := rat (a.1 * b.2 + b.1 * a.2) (a.2 * b.2)
theorem MM_pos : 0 < MM := by decide
theorem wt_dvd {k : Int} {r : Int × Int} (h : Rt k r) : r.2 * (MM / r.2) = MM := Int.mul_ediv_cancel' h.dvd
theorem plus_step {k : Int} (S : Int) {r : Int × Int} (h : Rt k r) : plusR (rat S MM) r = rat (S + wt r) MM := by
  have hc := rat_cross S MM
  have hq := rat_pos S MM MM_pos
  have hd := wt_dvd h
  have hpos := h.pos
  unfold plusR wt
  generalize (rat S MM).1 = p at *
  generalize (rat S MM).2 = q at *
  generalize MM / r.2 = m at *
  refine rat_eq _ _ _ _ (Int.mul_pos hq hpos) MM_pos ?_
  grind
theorem wt_rng {k : Int} {r : Int × Int} (h : Rt k r) : -(k * MM) ≤ wt r ∧ wt r ≤ k * MM := by
  have hd := wt_dvd h
  have hpos := h.pos
  have hm : 0 ≤ MM / r.2 := Int.ediv_nonneg (by decide) (by omega)
  unfold wt
  generalize MM / r.2 = m at *
  have h1 := Int.mul_le_mul_of_nonneg_right h.lo hm
  have h2 := Int.mul_le_mul_of_nonneg_right h.hi hm
  rw [Int.neg_mul, Int.mul_assoc, hd] at h1
  rw [Int.mul_assoc, hd] at h2
  exact ⟨h1, h2⟩
theorem sumR_rng {k : Int} {l : List (Int × Int)} (h : ∀ r ∈ l, Rt k r) : -(k * MM * l.length) ≤ sumR l ∧ sumR l ≤ k * MM * l.length := by
  induction l with
  | nil => simp [sumR]
  | cons r l ih =>
    have h1 := wt_rng (h r (by simp))
    have h2 := ih fun s hs => h s (by simp [hs])
    have e : sumR (r :: l) = wt r + sumR l := by simp [sumR]
    rw [e, List.length_cons]
    have e2 : k * MM * ((l.length + 1 : Nat) : Int) = k * MM * (l.length : Int) + k * MM := by rw [Int.natCast_add, Int.mul_add]; simp
    rw [e2]
    omega
/-- a sum of numbers may be added, too -/
theorem rat_rt {k : Int} {S : Int} (h1 : -(k * MM) ≤ S) (h2 : S ≤ k * MM) : Rt k (rat S MM) := by
  have hp := rat_part S MM
  have ha := rat_abs S MM k MM_pos (by rw [Int.neg_mul]; exact h1) h2
  refine ⟨rat_pos _ _ MM_pos, ⟨_, by rw [Int.mul_comm]; exact hp.2⟩, ?_, ha.2⟩
  have := ha.1
  rwa [Int.neg_mul] at this
theorem Rt.le {k m : Int} {r : Int × Int} (h : Rt k r) (hk : k ≤ m) : Rt m r := by
  have := Int.mul_le_mul_of_nonneg_right hk (Int.le_of_lt h.pos)
  exact ⟨h.pos, h.dvd, by have := h.lo; omega, by have := h.hi; omega⟩
theorem rat_wt {x y : Int} (hy : 0 < y) (hd : y ∣ MM) : wt (rat x y) = wt (x, y) := by
  have hp := rat_part x y
  have hq := rat_pos x y hy
  have hg := gcd_pos x y hy
  have hm : y * (MM / y) = MM := Int.mul_ediv_cancel' hd
  unfold wt
  simp only
  generalize (rat x y).1 = p at *
  generalize (rat x y).2 = q at *
  generalize (x.natAbs.gcd y.natAbs : Int) = G at *
  generalize MM / y = u at *
  have e : MM / q = G * u := by
    refine Int.ediv_eq_of_eq_mul_right (by omega) ?_
    rw [← hm, hp.2]
    grind
  rw [e, hp.1]
  grind
theorem rat_Rt {k x y : Int} (h : Rt k (x, y)) : Rt k (rat x y) := by
  have hp := rat_part x y
  have ha := rat_abs x y k h.pos (by rw [Int.neg_mul]; exact h.lo) h.hi
  refine ⟨rat_pos _ _ h.pos, Int.dvd_trans ⟨_, by rw [Int.mul_comm]; exact hp.2⟩ h.dvd, ?_, ha.2⟩
  have := ha.1
  rwa [Int.neg_mul] at this
theorem mul_Rt {k m c : Int} {r : Int × Int} (h : Rt k r) (h1 : -m ≤ c) (h2 : c ≤ m) (hk : 0 ≤ k) : Rt (m * k) (c * r.1, r.2) := by
  have hp := h.pos
  have hm : 0 ≤ m := by omega
  have hkr : 0 ≤ k * r.2 := Int.mul_nonneg hk (by omega)
  have ha : r.1.natAbs ≤ (k * r.2).natAbs := by have := h.lo; have := h.hi; omega
  have hc : c.natAbs ≤ m.natAbs := by omega
  have hb := Nat.mul_le_mul hc ha
  rw [← Int.natAbs_mul, ← Int.natAbs_mul] at hb
  have hpos : 0 ≤ m * (k * r.2) := Int.mul_nonneg hm hkr
  exact ⟨hp, h.dvd, by simp only; rw [Int.mul_assoc]; omega, by simp only; rw [Int.mul_assoc]; omega⟩
/-- the least common denominator of the first ones, as the document takes it -/
def lcmR (l : List (Int × Int)) : Int := l.foldl (fun m r => m / (Nat.gcd m.natAbs r.2.natAbs : Int) * r.2) 1
theorem lcmR_take (l : List (Int × Int)) (k : Nat) (hk : k < l.length) : lcmR (l.take (k + 1)) = lcmR (l.take k) / (Nat.gcd (lcmR (l.take k)).natAbs l[k].2.natAbs : Int) * l[k].2 := by
  unfold lcmR
  rw [List.take_succ_eq_append_getElem hk, List.foldl_append]
  rfl
theorem lcm_eq {m d : Int} (hm : 0 < m) (hd : 0 < d) : m / (Nat.gcd m.natAbs d.natAbs : Int) * d = (Nat.lcm m.natAbs d.natAbs : Int) := by
  obtain ⟨a, rfl⟩ := Int.eq_ofNat_of_zero_le (Int.le_of_lt hm)
  obtain ⟨b, rfl⟩ := Int.eq_ofNat_of_zero_le (Int.le_of_lt hd)
  simp only [Int.natAbs_natCast]
  rw [Nat.lcm_eq_mul_div, Nat.mul_div_right_comm (Nat.gcd_dvd_left a b)]
  simp
theorem lcm_ok {m d : Int} (hm : 0 < m) (hd : 0 < d) (h1 : m ∣ MM) (h2 : d ∣ MM) : 0 < m / (Nat.gcd m.natAbs d.natAbs : Int) * d ∧ m / (Nat.gcd m.natAbs d.natAbs : Int) * d ∣ MM ∧ m ∣ m / (Nat.gcd m.natAbs d.natAbs : Int) * d ∧ d ∣ m / (Nat.gcd m.natAbs d.natAbs : Int) * d := by
  rw [lcm_eq hm hd]
  have hp : 0 < Nat.lcm m.natAbs d.natAbs := Nat.lcm_pos (by omega) (by omega)
  have e1 := Nat.dvd_lcm_left m.natAbs d.natAbs
  have e2 := Nat.dvd_lcm_right m.natAbs d.natAbs
  have e3 : Nat.lcm m.natAbs d.natAbs ∣ MM.natAbs := Nat.lcm_dvd (Int.natAbs_dvd_natAbs.2 h1) (Int.natAbs_dvd_natAbs.2 h2)
  refine ⟨by omega, Int.natAbs_dvd_natAbs.1 (by simpa using e3), Int.natAbs_dvd_natAbs.1 (by simpa using e1), Int.natAbs_dvd_natAbs.1 (by simpa using e2)⟩
structure Cm (m : Int) (l : List (Int × Int)) : Prop where
  pos : 0 < m
  dvd : m ∣ MM
  all : ∀ r ∈ l, r.2 ∣ m
theorem cm_take {k : Int} {l : List (Int × Int)} (h : ∀ r ∈ l, Rt k r) (i : Nat) (hi : i ≤ l.length) : Cm (lcmR (l.take i)) (l.take i) := by
  induction i with
  | zero => exact ⟨by simp [lcmR], ⟨MM, by simp [lcmR]⟩, by simp⟩
  | succ i ih =>
    have hlt : i < l.length := by omega
    have hm := ih (by omega)
    have hr := h l[i] (List.getElem_mem hlt)
    have hk := lcm_ok hm.pos hr.pos hm.dvd hr.dvd
    rw [← lcmR_take l i hlt] at hk
    refine ⟨hk.1, hk.2.1, fun r hr' => ?_⟩
    rw [List.take_succ_eq_append_getElem hlt, List.mem_append] at hr'
    rcases hr' with e | e
    · exact Int.dvd_trans (hm.all r e) hk.2.2.1
    · rw [List.mem_singleton] at e
      rw [e]
      exact hk.2.2.2
theorem cm_all {k : Int} {l : List (Int × Int)} (h : ∀ r ∈ l, Rt k r) : Cm (lcmR l) l := by
  have := cm_take h l.length (Nat.le_refl _)
  rwa [List.take_length] at this
def wtA (m : Int) (r : Int × Int) : Int := r.1 * (m / r.2)
def sumA (m : Int) (l : List (Int × Int)) : Int := (l.map (wtA m)).sum
theorem sumA_take (m : Int) (l : List (Int × Int)) (k : Nat) (hk : k < l.length) : sumA m (l.take (k + 1)) = sumA m (l.take k) + wtA m l[k] := by
  unfold sumA
  rw [List.take_succ_eq_append_getElem hk, List.map_append, List.sum_append]
  simp
theorem sumA_eq {m : Int} {l : List (Int × Int)} (hp : 0 < m) (hm : m ∣ MM) (h : ∀ r ∈ l, 0 < r.2 ∧ r.2 ∣ m) : sumA m l * (MM / m) = sumR l := by
  induction l with
  | nil => simp [sumA, sumR]
  | cons r l ih =>
    have h1 := h r (by simp)
    have e1 : sumA m (r :: l) = wtA m r + sumA m l := by simp [sumA]
    have e2 : sumR (r :: l) = wt r + sumR l := by simp [sumR]
    have i2 := ih fun s hs => h s (by simp [hs])
    have hd1 : r.2 * (m / r.2) = m := Int.mul_ediv_cancel' h1.2
    have hd2 : m * (MM / m) = MM := Int.mul_ediv_cancel' hm
    have hd3 : r.2 * (MM / r.2) = MM := Int.mul_ediv_cancel' (Int.dvd_trans h1.2 hm)
    rw [e1, e2, Int.add_mul, i2]
    congr 1
    unfold wtA wt
    generalize m / r.2 = u at *
    generalize MM / m = v at *
    have : MM / r.2 = u * v := by
      refine Int.eq_of_mul_eq_mul_left (a := r.2) (by omega) ?_
      rw [hd3]
      grind
    rw [this]
    grind
theorem wtA_rng {k m : Int} {r : Int × Int} (hp : 0 < m) (h : Rt k r) (hd : r.2 ∣ m) : -(k * m) ≤ wtA m r ∧ wtA m r ≤ k * m := by
  have hd := Int.mul_ediv_cancel' hd
  have hm : 0 ≤ m / r.2 := Int.ediv_nonneg (by omega) (by have := h.pos; omega)
  unfold wtA
  generalize m / r.2 = u at *
  have h1 := Int.mul_le_mul_of_nonneg_right h.lo hm
  have h2 := Int.mul_le_mul_of_nonneg_right h.hi hm
  rw [Int.neg_mul, Int.mul_assoc, hd] at h1
  rw [Int.mul_assoc, hd] at h2
  exact ⟨h1, h2⟩
theorem sumA_rng {k m : Int} (hp : 0 < m) {l : List (Int × Int)} (h : ∀ r ∈ l, Rt k r ∧ r.2 ∣ m) : -(k * m * l.length) ≤ sumA m l ∧ sumA m l ≤ k * m * l.length := by
  induction l with
  | nil => simp [sumA]
  | cons r l ih =>
    have h1 := wtA_rng hp (h r (by simp)).1 (h r (by simp)).2
    have h2 := ih fun s hs => h s (by simp [hs])
    have e : sumA m (r :: l) = wtA m r + sumA m l := by simp [sumA]
    rw [e, List.length_cons]
    have e2 : k * m * ((l.length + 1 : Nat) : Int) = k * m * (l.length : Int) + k * m := by rw [Int.natCast_add, Int.mul_add]; simp
    rw [e2]
    omega
/-- both ways to take the mean lead to the same number -/
theorem mean_eq {k : Int} {l : List (Int × Int)} (h : ∀ r ∈ l, Rt k r) (n : Int) (hn : 0 < n) : rat (sumA (lcmR l) l) (lcmR l * n) = rat (sumR l) (MM * n) := by
  have hc := cm_all h
  have he := sumA_eq hc.pos hc.dvd fun r hr => ⟨(h r hr).pos, hc.all r hr⟩
  have hd2 : lcmR l * (MM / lcmR l) = MM := Int.mul_ediv_cancel' hc.dvd
  refine rat_eq _ _ _ _ (Int.mul_pos hc.pos hn) (Int.mul_pos MM_pos hn) ?_
  rw [← he]
  generalize MM / lcmR l = v at *
  rw [← hd2]
  grind
theorem mean_low (S n : Int) (hn : 0 < n) : rat (rat S MM).1 ((rat S MM).2 * n) = rat S (MM * n) := by
  have hc := rat_cross S MM
  have hq := rat_pos S MM MM_pos
  refine rat_eq _ _ _ _ (Int.mul_pos hq hn) (Int.mul_pos MM_pos hn) ?_
  generalize (rat S MM).1 = p at *
  generalize (rat S MM).2 = q at *
  grind
end Lm

/- Plain mathematics of the sum of two numbers over their least common denominator; no Go.
Conditions: none. -/
set_option autoImplicit false
namespace Lm
set_option linter.unusedVariables false
set_option linter.unusedSimpArgs false
open Tm Um

structure Pl2 (a b : Int × Int) (k m p q G : Int) : Prop where
  G0 : 0 < G
  e1 : a.2 = G * p
  e2 : b.2 = G * q
  p0 : 0 < p
  q0 : 0 < q
  pm : p ≤ MM
  qm : q ≤ MM
  l0 : 0 < p * b.2
  l1 : p * b.2 ≤ MM
  x0 : -(k * MM) ≤ a.1 * q
  x1 : a.1 * q ≤ k * MM
  y0 : -(m * MM) ≤ b.1 * p
  y1 : b.1 * p ≤ m * MM
  r : rat (a.1 * q + b.1 * p) (p * b.2) = plusR a b
theorem pl2 {k m : Int} {a b : Int × Int} (ha : Rt k a) (hb : Rt m b) (hk : 0 ≤ k) (hm : 0 ≤ m) : ∃ p q, Pl2 a b k m p q (Nat.gcd a.2.natAbs b.2.natAbs : Int) := by
  obtain ⟨a1, a2⟩ := a
  obtain ⟨b1, b2⟩ := b
  have a0 : 0 < a2 := ha.pos
  have b0 : 0 < b2 := hb.pos
  have hl := lcm_ok a0 b0 ha.dvd hb.dvd
  have hG := gcd_pos a2 b2 b0
  have d1 : (Nat.gcd a2.natAbs b2.natAbs : Int) ∣ a2 := Int.ofNat_dvd_left.2 (Nat.gcd_dvd_left _ _)
  have d2 : (Nat.gcd a2.natAbs b2.natAbs : Int) ∣ b2 := Int.ofNat_dvd_left.2 (Nat.gcd_dvd_right _ _)
  have aL : -(k * a2) ≤ a1 := ha.lo
  have aH : a1 ≤ k * a2 := ha.hi
  have bL : -(m * b2) ≤ b1 := hb.lo
  have bH : b1 ≤ m * b2 := hb.hi
  clear ha hb
  simp only at hl ⊢
  generalize (Nat.gcd a2.natAbs b2.natAbs : Int) = G at *
  obtain ⟨p, hp⟩ := d1
  obtain ⟨q, hq⟩ := d2
  have ep : a2 / G = p := by rw [hp]; exact Int.mul_ediv_cancel_left _ (by omega)
  rw [ep] at hl
  have p0 : 0 < p := by rw [hp] at a0; exact Int.pos_of_mul_pos_right a0 (by omega)
  have q0 : 0 < q := by rw [hq] at b0; exact Int.pos_of_mul_pos_right b0 (by omega)
  have hle := Int.le_of_dvd MM_pos hl.2.1
  subst hp hq
  have hM : G * p * q = p * (G * q) := by grind
  have u1 := Int.mul_le_mul_of_nonneg_right aL (Int.le_of_lt q0)
  have u2 := Int.mul_le_mul_of_nonneg_right aH (Int.le_of_lt q0)
  have v1 := Int.mul_le_mul_of_nonneg_right bL (Int.le_of_lt p0)
  have v2 := Int.mul_le_mul_of_nonneg_right bH (Int.le_of_lt p0)
  have w1 := Int.mul_le_mul_of_nonneg_left hle hk
  have w2 := Int.mul_le_mul_of_nonneg_left hle hm
  have t1 : k * (G * p) * q = k * (p * (G * q)) := by grind
  have t2 : m * (G * q) * p = m * (p * (G * q)) := by grind
  have t3 : -(k * (G * p)) * q = -(k * (p * (G * q))) := by grind
  have t4 : -(m * (G * q)) * p = -(m * (p * (G * q))) := by grind
  have hb1 : q ≤ G * q := by have := Int.mul_le_mul_of_nonneg_right (show 1 ≤ G by omega) (Int.le_of_lt q0); omega
  have pq1 : p ≤ p * (G * q) := by have := Int.mul_le_mul_of_nonneg_left (show 1 ≤ G * q by omega) (Int.le_of_lt p0); omega
  have pq2 : G * q ≤ p * (G * q) := by have := Int.mul_le_mul_of_nonneg_right (show 1 ≤ p by omega) (show 0 ≤ G * q by omega); omega
  refine ⟨p, q, hG, rfl, rfl, p0, q0, by omega, by omega, hl.1, hle, by (simp only; omega), by (simp only; omega), by (simp only; omega), by (simp only; omega), ?_⟩
  have e : a1 * (G * q) + b1 * (G * p) = G * (a1 * q + b1 * p) := by grind
  show rat (a1 * q + b1 * p) (p * (G * q)) = rat (a1 * (G * q) + b1 * (G * p)) (G * p * (G * q))
  rw [e, show G * p * (G * q) = G * (p * (G * q)) by grind, rat_scale _ _ _ hG]
/-- the sum of the first ones, as the program adds -/
def acR (l : List (Int × Int)) : Int × Int := rat (sumR l) MM
theorem acR_nil : acR [] = (0, 1) := by decide
theorem acR_take {k : Int} {l : List (Int × Int)} (h : ∀ r ∈ l, Rt k r) (i : Nat) (hi : i < l.length) : plusR (acR (l.take i)) l[i] = acR (l.take (i + 1)) := by
  unfold acR
  rw [sumR_take l i hi]
  exact plus_step _ (h _ (List.getElem_mem hi))
theorem acR_rt {k : Int} {l : List (Int × Int)} (hk : 0 ≤ k) (h : ∀ r ∈ l, Rt k r) (n : Nat) (hn : l.length ≤ n) (i : Nat) : Rt (k * n) (acR (l.take i)) := by
  have h1 := sumR_rng (l := l.take i) fun r hr => h r (List.mem_of_mem_take hr)
  have h2 : ((l.take i).length : Int) ≤ n := by have := List.length_take_le' i l; omega
  have h3 : k * MM * ((l.take i).length : Int) ≤ k * MM * n := Int.mul_le_mul_of_nonneg_left h2 (Int.mul_nonneg hk (by decide))
  have e : k * (n : Int) * MM = k * MM * n := by grind
  exact rat_rt (by rw [e]; omega) (by rw [e]; omega)
/-- the mean of numbers -/
def meanR (l : List (Int × Int)) : Int × Int := rat (sumR l) (MM * l.length)
theorem mean_ac (l : List (Int × Int)) (hl : 0 < l.length) : rat (acR l).1 ((acR l).2 * l.length) = meanR l := mean_low _ _ (by omega)
theorem mean_all {k : Int} {l : List (Int × Int)} (h : ∀ r ∈ l, Rt k r) (hl : 0 < l.length) : rat (sumA (lcmR l) l) (lcmR l * l.length) = meanR l := mean_eq h _ (by omega)
theorem val_all {k : Int} {l : List (Int × Int)} (h : ∀ r ∈ l, Rt k r) : rat (sumA (lcmR l) l) (lcmR l * 1) = acR l := by
  have := mean_eq h 1 (by decide)
  rw [this, Int.mul_one]
  rfl
end Lm
