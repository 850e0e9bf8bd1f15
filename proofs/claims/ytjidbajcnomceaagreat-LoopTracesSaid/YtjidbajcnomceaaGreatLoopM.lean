/- Plain mathematics of sums of loops: how paths are ordered, and what the plain form of a list of terms is; no Go.
Conditions: none. -/
import Derived.Test.YtjidbajcnomceaaGreatMathA
import Derived.RowKit
set_option autoImplicit false
namespace Lm
set_option linter.unusedVariables false
set_option linter.unusedSimpArgs false
open Tm

def cmpI (x y : Int) : Int := if x < y then -1 else if y < x then 1 else 0
def cmpL : List Int → List Int → Int
  | [], [] => 0
  | [], _ :: _ => -1
  | _ :: _, [] => 1
  | x :: l, y :: m => if cmpI x y = 0 then cmpL l m else cmpI x y
theorem cmpI_rng (x y : Int) : cmpI x y = -1 ∨ cmpI x y = 0 ∨ cmpI x y = 1 := by unfold cmpI; split <;> (try split) <;> simp
theorem cmpL_rng (l m : List Int) : cmpL l m = -1 ∨ cmpL l m = 0 ∨ cmpL l m = 1 := by
  induction l generalizing m with
  | nil => cases m <;> simp [cmpL]
  | cons x l ih =>
    cases m with
    | nil => simp [cmpL]
    | cons y m =>
      unfold cmpL
      split
      · exact ih m
      · exact cmpI_rng x y
theorem cmpI_zero {x y : Int} : cmpI x y = 0 ↔ x = y := by
  unfold cmpI
  constructor
  · intro h; split at h
    · omega
    · split at h <;> omega
  · rintro rfl; simp
theorem cmpI_neg (x y : Int) : cmpI y x = -cmpI x y := by
  unfold cmpI
  split <;> split <;> omega
theorem cmpL_neg (l m : List Int) : cmpL m l = -cmpL l m := by
  induction l generalizing m with
  | nil => cases m <;> simp [cmpL]
  | cons x l ih =>
    cases m with
    | nil => simp [cmpL]
    | cons y m =>
      unfold cmpL
      by_cases h : cmpI x y = 0
      · rw [if_pos h, if_pos (by rw [cmpI_neg, h]; rfl), ih m]
      · rw [if_neg h, if_neg (by rw [cmpI_neg]; omega), cmpI_neg]
theorem cmpL_zero {l m : List Int} : cmpL l m = 0 ↔ l = m := by
  induction l generalizing m with
  | nil => cases m <;> simp [cmpL]
  | cons x l ih =>
    cases m with
    | nil => simp [cmpL]
    | cons y m =>
      unfold cmpL
      by_cases h : cmpI x y = 0
      · rw [if_pos h, ih, cmpI_zero.1 h]; simp
      · rw [if_neg h]
        refine ⟨fun e => absurd e h, fun e => ?_⟩
        simp only [List.cons.injEq] at e
        exact absurd (cmpI_zero.2 e.1) h
theorem cmpI_lt {x y : Int} : cmpI x y < 0 ↔ x < y := by
  unfold cmpI
  split
  · simp; assumption
  · split <;> simp <;> omega
theorem cmpL_trans {l m k : List Int} (h1 : cmpL l m < 0) (h2 : cmpL m k < 0) : cmpL l k < 0 := by
  induction l generalizing m k with
  | nil =>
    cases k with
    | nil => cases m <;> simp [cmpL] at h1 h2
    | cons z k => simp [cmpL]
  | cons x l ih =>
    cases m with
    | nil => simp [cmpL] at h1
    | cons y m =>
      cases k with
      | nil => simp [cmpL] at h2
      | cons z k =>
        simp only [cmpL] at h1 h2 ⊢
        by_cases a : cmpI x y = 0
        · obtain rfl := cmpI_zero.1 a
          rw [if_pos a] at h1
          by_cases b : cmpI x z = 0
          · rw [if_pos b] at h2 ⊢
            exact ih h1 h2
          · rw [if_neg b] at h2 ⊢
            exact h2
        · rw [if_neg a] at h1
          have a1 := cmpI_lt.1 h1
          by_cases b : cmpI y z = 0
          · obtain rfl := cmpI_zero.1 b
            rw [if_neg a]
            exact h1
          · rw [if_neg b] at h2
            have b1 := cmpI_lt.1 h2
            have c1 : x < z := by omega
            rw [if_neg (by rw [cmpI_zero]; omega)]
            exact cmpI_lt.2 c1
theorem cmpL_ntrans {l m k : List Int} (h1 : ¬ cmpL l m < 0) (h2 : ¬ cmpL m k < 0) : ¬ cmpL l k < 0 := by
  intro h
  have r1 := cmpL_rng l m
  have r2 := cmpL_rng m k
  have n1 := cmpL_neg l m
  have n2 := cmpL_neg m k
  by_cases a : cmpL l m = 0
  · obtain rfl := cmpL_zero.1 a; exact h2 h
  · by_cases b : cmpL m k = 0
    · obtain rfl := cmpL_zero.1 b; exact h1 h
    · have := cmpL_trans (l := k) (m := m) (k := l) (by omega) (by omega)
      have n3 := cmpL_neg l k
      omega
theorem cmpL_irr (l : List Int) : cmpL l l = 0 := cmpL_zero.2 rfl
/-- the one of two lists that comes first -/
def mnL (l m : List Int) : List Int := if cmpL l m ≤ 0 then l else m
/-- the plain path -/
def plL (l : List Int) : List Int := mnL (red l) (opp (red l))

theorem opp_opp (l : List Int) : opp (opp l) = l := by simp [opp, Function.comp_def]
theorem mnL_comm (l m : List Int) : mnL l m = mnL m l := by
  unfold mnL
  have n := cmpL_neg l m
  have r := cmpL_rng l m
  by_cases h : cmpL l m = 0
  · obtain rfl := cmpL_zero.1 h; rfl
  · split <;> split <;> first | rfl | omega
theorem mnL_mem (l m : List Int) : mnL l m = l ∨ mnL l m = m := by unfold mnL; split <;> simp

/-! ### terms -/
abbrev Trm := Int × List Int
def ad (x y : Int) : Int := Go.RowKit.wrap64 (x + y)
/-- a term is put into a list of terms whose paths ascend -/
def ins (t : Trm) : List Trm → List Trm
  | [] => [t]
  | s :: r => if cmpL s.2 t.2 < 0 then s :: ins t r else if s.2 = t.2 then (ad s.1 t.1, s.2) :: r else t :: s :: r
def coll (ts : List Trm) : List Trm := ts.foldl (fun o t => ins t o) []
theorem coll_take (ts : List Trm) (k : Nat) (hk : k < ts.length) : coll (ts.take (k + 1)) = ins ts[k] (coll (ts.take k)) := by
  unfold coll
  rw [List.take_succ_eq_append_getElem hk, List.foldl_append]
  rfl
/-- the paths ascend -/
def Asc (o : List Trm) : Prop := o.Pairwise fun s t => cmpL s.2 t.2 < 0
theorem ins_mem {t s : Trm} {o : List Trm} (h : s ∈ ins t o) : s.2 = t.2 ∨ s ∈ o := by
  induction o with
  | nil => simp [ins] at h; exact .inl (by rw [h])
  | cons x r ih =>
    simp only [ins] at h
    split at h
    · simp only [List.mem_cons] at h ⊢
      rcases h with h | h
      · exact .inr (.inl h)
      · rcases ih h with h | h
        · exact .inl h
        · exact .inr (.inr h)
    · split at h
      · rename_i e
        simp only [List.mem_cons] at h ⊢
        rcases h with h | h
        · exact .inl (by rw [h]; exact e)
        · exact .inr (.inr h)
      · simp only [List.mem_cons] at h ⊢
        rcases h with h | h | h
        · exact .inl (by rw [h])
        · exact .inr (.inl h)
        · exact .inr (.inr h)
theorem ins_asc {t : Trm} {o : List Trm} (h : Asc o) : Asc (ins t o) := by
  induction o with
  | nil => simp [ins, Asc]
  | cons x r ih =>
    unfold Asc at h ih ⊢
    rw [List.pairwise_cons] at h
    simp only [ins]
    split
    · rename_i hlt
      rw [List.pairwise_cons]
      refine ⟨fun s hs => ?_, ih h.2⟩
      rcases ins_mem hs with e | e
      · rw [e]; exact hlt
      · exact h.1 s e
    · split
      · rw [List.pairwise_cons]; exact ⟨fun s hs => h.1 s hs, h.2⟩
      · rename_i h1 h2
        have h3 : cmpL t.2 x.2 < 0 := by
          have n := cmpL_neg x.2 t.2
          have r := cmpL_rng x.2 t.2
          have z : cmpL x.2 t.2 ≠ 0 := fun e => h2 (cmpL_zero.1 e)
          omega
        rw [List.pairwise_cons, List.pairwise_cons]
        refine ⟨fun s hs => ?_, h⟩
        rcases List.mem_cons.1 hs with e | e
        · rw [e]; exact h3
        · exact cmpL_trans h3 (h.1 s e)
theorem coll_asc (ts : List Trm) : Asc (coll ts) := by
  have : ∀ (ts o : List Trm), Asc o → Asc (ts.foldl (fun o t => ins t o) o) := fun ts => by
    induction ts with
    | nil => intro o h; exact h
    | cons t r ih => intro o h; exact ih _ (ins_asc h)
  exact this ts [] (by simp [Asc])
/-- the coefficient of a path in a list -/
def look (p : List Int) : List Trm → Option Int
  | [] => none
  | s :: r => if s.2 = p then some s.1 else look p r
theorem look_none_of {p : List Int} {o : List Trm} (h : ∀ s ∈ o, s.2 ≠ p) : look p o = none := by
  induction o with
  | nil => rfl
  | cons x r ih =>
    simp only [look]
    rw [if_neg (h x (by simp))]
    exact ih fun s hs => h s (by simp [hs])
theorem look_ins (p : List Int) (t : Trm) (o : List Trm) (h : Asc o) : look p (ins t o) = if t.2 = p then some (match look p o with | none => t.1 | some c => ad c t.1) else look p o := by
  induction o with
  | nil => simp [ins, look]
  | cons x r ih =>
    unfold Asc at h
    rw [List.pairwise_cons] at h
    simp only [ins]
    split
    · rename_i hlt
      simp only [look]
      rw [ih h.2]
      by_cases e : t.2 = p
      · rw [if_pos e]
        have hne : ¬ x.2 = p := fun e' => by rw [e, e', cmpL_irr] at hlt; omega
        rw [if_neg hne, if_neg hne, if_pos e]
      · rw [if_neg e, if_neg e]
    · split
      · rename_i h1 h2
        simp only [look]
        by_cases e : t.2 = p
        · rw [if_pos e, if_pos (h2.trans e), if_pos (h2.trans e)]
        · rw [if_neg e]
          rw [if_neg (by rw [h2]; exact e), if_neg (by rw [h2]; exact e)]
      · rename_i h1 h2
        simp only [look]
        have h3 : cmpL t.2 x.2 < 0 := by
          have n := cmpL_neg x.2 t.2
          have r := cmpL_rng x.2 t.2
          have z : cmpL x.2 t.2 ≠ 0 := fun e => h2 (cmpL_zero.1 e)
          omega
        by_cases e : t.2 = p
        · rw [if_pos e, if_pos e, if_neg (by rw [← e]; exact h2)]
          rw [look_none_of fun s hs e' => ?_]
          have := cmpL_trans h3 (h.1 s hs)
          rw [e, e', cmpL_irr] at this
          omega
        · rw [if_neg e, if_neg e]
theorem look_mem {p : List Int} {c : Int} {o : List Trm} (h : Asc o) : look p o = some c ↔ (c, p) ∈ o := by
  induction o with
  | nil => simp [look]
  | cons x r ih =>
    unfold Asc at h ih
    rw [List.pairwise_cons] at h
    simp only [look]
    by_cases e : x.2 = p
    · rw [if_pos e]
      simp only [Option.some.injEq, List.mem_cons]
      constructor
      · intro hc; left; rw [← hc, ← e]
      · rintro (hc | hc)
        · rw [← hc]
        · have := h.1 _ hc
          simp only [e, cmpL_irr] at this
          omega
    · rw [if_neg e, ih h.2]
      simp only [List.mem_cons]
      constructor
      · exact .inr
      · rintro (hc | hc)
        · exact absurd (by rw [← hc]) e
        · exact hc
/-- the plain form -/
def plT (ts : List Trm) : List Trm := (coll ts).filter fun t => t.1 ≠ 0
theorem plT_asc (ts : List Trm) : Asc (plT ts) := List.Pairwise.filter _ (coll_asc ts)
theorem plT_mem {ts : List Trm} {t : Trm} : t ∈ plT ts ↔ look t.2 (coll ts) = some t.1 ∧ t.1 ≠ 0 := by
  unfold plT
  rw [List.mem_filter, look_mem (coll_asc ts)]
  simp
theorem asc_eq {o o' : List Trm} (h : Asc o) (h' : Asc o') (hm : ∀ t, t ∈ o ↔ t ∈ o') : o = o' := by
  induction o generalizing o' with
  | nil =>
    cases o' with
    | nil => rfl
    | cons y r => have := (hm y).2 (by simp); simp at this
  | cons x r ih =>
    cases o' with
    | nil => have := (hm x).1 (by simp); simp at this
    | cons y r' =>
      unfold Asc at h h'
      rw [List.pairwise_cons] at h h'
      have irr : ∀ {s : Trm}, ¬ cmpL s.2 s.2 < 0 := fun {s} => by rw [cmpL_irr]; omega
      have hxy : x = y := by
        rcases List.mem_cons.1 ((hm x).1 (by simp)) with e | e
        · exact e
        · rcases List.mem_cons.1 ((hm y).2 (by simp)) with e' | e'
          · exact e'.symm
          · exact absurd (cmpL_trans (h.1 y e') (h'.1 x e)) irr
      subst hxy
      congr 1
      refine ih h.2 h'.2 fun t => ⟨fun ht => ?_, fun ht => ?_⟩
      · rcases List.mem_cons.1 ((hm t).1 (by simp [ht])) with e | e
        · subst e; exact absurd (h.1 _ ht) irr
        · exact e
      · rcases List.mem_cons.1 ((hm t).2 (by simp [ht])) with e | e
        · subst e; exact absurd (h'.1 _ ht) irr
        · exact e
theorem asc_of_perm {o d : List Trm} (hp : d.Perm o) (hd : o.Pairwise fun s t => s.2 ≠ t.2) (hs : d.Pairwise fun s t => ¬ cmpL t.2 s.2 < 0) : Asc d := by
  have hd' : d.Pairwise fun s t => s.2 ≠ t.2 := (hp.pairwise_iff fun h => h.symm).2 hd
  unfold Asc
  exact (hd'.and hs).imp fun {s t} ⟨h1, h2⟩ => by
    have n := cmpL_neg t.2 s.2
    have r := cmpL_rng t.2 s.2
    have z : cmpL t.2 s.2 ≠ 0 := fun e => h1 (cmpL_zero.1 e).symm
    omega
theorem coll_path {ts : List Trm} {s : Trm} (h : s ∈ coll ts) : ∃ t ∈ ts, s.2 = t.2 := by
  have : ∀ (ts o : List Trm), s ∈ ts.foldl (fun o t => ins t o) o → (∃ t ∈ ts, s.2 = t.2) ∨ s ∈ o := fun ts => by
    induction ts with
    | nil => intro o h; exact .inr h
    | cons t r ih =>
      intro o h
      rcases ih _ h with ⟨t', ht', e⟩ | h
      · exact .inl ⟨t', by simp [ht'], e⟩
      · rcases ins_mem h with e | e
        · exact .inl ⟨t, by simp, e⟩
        · exact .inr e
  rcases this ts [] h with h | h
  · exact h
  · simp at h
theorem ins_len (t : Trm) (o : List Trm) : (ins t o).length ≤ o.length + 1 := by
  induction o with
  | nil => simp [ins]
  | cons x r ih => simp only [ins]; split <;> (try split) <;> simp <;> omega
theorem coll_len (ts : List Trm) : (coll ts).length ≤ ts.length := by
  have : ∀ (ts o : List Trm), (ts.foldl (fun o t => ins t o) o).length ≤ o.length + ts.length := fun ts => by
    induction ts with
    | nil => intro o; simp
    | cons t r ih => intro o; have := ih (ins t o); have := ins_len t o; simp only [List.foldl_cons, List.length_cons]; omega
  have h := this ts []
  simpa [coll] using h
theorem plT_len (ts : List Trm) : (plT ts).length ≤ ts.length := Nat.le_trans (List.length_filter_le _ _) (coll_len ts)

/-! ### paths one behind the other -/
/-- a stack (its last step first) and the path behind it: what is left where they meet -/
def jn : List Int → List Int → List Int
  | [], q => q.reverse
  | x :: st, [] => x :: st
  | x :: st, y :: q => if x = -y then jn st q else (y :: q).reverse ++ x :: st
theorem good_fold {st : List Int} (h : Good st) (l : List Int) : Good (l.foldl push st) := by
  induction l generalizing st with
  | nil => exact h
  | cons t l ih => exact ih (good_push h t)
/-- steps that do not undo their neighbours are laid on one by one -/
theorem fold_plain {st q : List Int} (h : Good (q.reverse ++ st)) : q.foldl push st = q.reverse ++ st := by
  induction q generalizing st with
  | nil => rfl
  | cons y q ih =>
    have hp : push st y = y :: st := by
      cases st with
      | nil => rfl
      | cons x st =>
        simp only [push]
        rw [if_neg]
        have : ∀ (a : List Int), Good (a ++ y :: x :: st) → x ≠ -y := fun a => by
          induction a with
          | nil => intro h; exact h.1
          | cons b a ih => intro h; exact ih (good_tail (x := b) h)
        refine this q.reverse ?_
        simpa using h
    rw [List.foldl_cons, hp, ih (by simpa using h)]
    simp
theorem good_app {a b : List Int} (h : Good (a ++ b)) : Good b := by
  induction a with
  | nil => exact h
  | cons x a ih => exact ih (good_tail (x := x) h)
theorem good_front {a b : List Int} (h : Good (a ++ b)) : Good a := by
  induction a with
  | nil => trivial
  | cons x a ih =>
    cases a with
    | nil => trivial
    | cons y a => exact ⟨h.1, ih h.2⟩
theorem good_glue {a b : List Int} {x y : Int} (h1 : Good (a ++ [y])) (h2 : Good (x :: b)) (hne : x ≠ -y) : Good (a ++ y :: x :: b) := by
  induction a with
  | nil => exact ⟨hne, h2⟩
  | cons z a ih =>
    cases a with
    | nil => exact ⟨h1.1, ih trivial⟩
    | cons z' a => exact ⟨h1.1, ih h1.2⟩
theorem good_neg {l : List Int} (h : Good l) : Good l.reverse := by
  induction l with
  | nil => trivial
  | cons x l ih =>
    cases l with
    | nil => trivial
    | cons y l =>
      have h1 := ih h.2
      rw [List.reverse_cons, List.reverse_cons, List.append_assoc]
      rw [List.reverse_cons] at h1
      exact good_glue h1 (show Good [x] from trivial) (fun e => h.1 (by omega))
theorem jn_fold {st q : List Int} (hs : Good st) (hq : Good q.reverse) : q.foldl push st = jn st q := by
  induction st generalizing q with
  | nil => rw [fold_plain (by simpa using hq)]; simp [jn]
  | cons x st ih =>
    cases q with
    | nil => rfl
    | cons y q =>
      simp only [jn]
      by_cases e : x = -y
      · rw [if_pos e, List.foldl_cons]
        have hp : push (x :: st) y = st := by simp only [push]; rw [if_pos e]
        rw [hp]
        refine ih (good_tail hs) ?_
        rw [List.reverse_cons] at hq
        exact good_front hq
      · rw [if_neg e]
        refine fold_plain ?_
        rw [List.reverse_cons, List.append_assoc]
        rw [List.reverse_cons] at hq
        exact good_glue hq hs e
theorem push_push {st : List Int} (h : Good st) (t : Int) : push (push st (-t)) t = st := by
  cases st with
  | nil => simp [push]
  | cons x st =>
    simp only [push]
    by_cases e : x = - -t
    · rw [if_pos e]
      cases st with
      | nil => simp [push]; omega
      | cons y st =>
        simp only [push]
        rw [if_neg (by have := h.1; omega)]
        congr 1; omega
    · rw [if_neg e]; simp [push]
theorem fold_red {st : List Int} (h : Good st) (l : List Int) : (red l).foldl push st = l.foldl push st := by
  suffices H : ∀ (n : Nat) (l : List Int), l.length = n → (red l).foldl push st = l.foldl push st from H _ l rfl
  intro n
  induction n with
  | zero => intro l hl; rw [List.length_eq_zero_iff.1 hl]; rfl
  | succ n ih =>
    intro l hl
    obtain ⟨m, t, rfl⟩ : ∃ m t, l = m ++ [t] := ⟨l.dropLast, l.getLast (by intro e; simp [e] at hl), (List.dropLast_concat_getLast _).symm⟩
    have hm : m.length = n := by simpa using hl
    have e := ih m hm
    have hr : redS (m ++ [t]) = push (redS m) t := by unfold redS; rw [List.foldl_append]; rfl
    rw [List.foldl_append, List.foldl_cons, List.foldl_nil, ← e]
    unfold red
    rw [hr]
    cases hS : redS m with
    | nil => simp [push]
    | cons x r =>
      simp only [push]
      by_cases hx : x = -t
      · rw [if_pos hx, hx, List.reverse_cons, List.foldl_append]
        exact (push_push (good_fold h _) t).symm
      · rw [if_neg hx, List.reverse_cons, List.foldl_append]
        rfl
theorem redS_app (a b : List Int) : redS (a ++ b) = b.foldl push (redS a) := by unfold redS; rw [List.foldl_append]
theorem redS_red (a : List Int) : redS (red a) = redS a := by rw [red, redS_rev _ (redS_good a)]
/-- two reduced paths, joined -/
theorem jn_red (a b : List Int) : jn (redS a) (red b) = redS (a ++ b) := by
  rw [← jn_fold (redS_good a) (by rw [red, List.reverse_reverse]; exact redS_good b), fold_red (redS_good a), redS_app]
theorem red_app (a b : List Int) : red (red a ++ red b) = red (a ++ b) := by
  unfold red
  have : redS ((redS a).reverse ++ (redS b).reverse) = redS (a ++ b) := by
    rw [redS_app, show redS (redS a).reverse = redS a from redS_red a, redS_app]
    exact fold_red (redS_good a) b
  rw [this]
theorem opp_app (a b : List Int) : opp (a ++ b) = opp b ++ opp a := by simp [opp]
theorem good_opp {l : List Int} (h : Good l) : Good (l.map fun t => -t) := by
  induction l with
  | nil => trivial
  | cons x l ih =>
    cases l with
    | nil => trivial
    | cons y l => exact ⟨by show -y ≠ - -x; have := h.1; omega, ih h.2⟩
theorem good_redS {l : List Int} (h : Good l.reverse) : red l = l := by
  unfold red
  have := redS_rev l.reverse h
  rw [List.reverse_reverse] at this
  rw [this, List.reverse_reverse]
theorem redS_opp (l : List Int) : red (opp l) = opp (red l) := by
  suffices H : ∀ (n : Nat) (l : List Int), l.length = n → red (opp l) = opp (red l) from H _ l rfl
  intro n
  induction n with
  | zero => intro l hl; rw [List.length_eq_zero_iff.1 hl]; rfl
  | succ n ih =>
    intro l hl
    obtain ⟨m, t, rfl⟩ : ∃ m t, l = m ++ [t] := ⟨l.dropLast, l.getLast (by intro e; simp [e] at hl), (List.dropLast_concat_getLast _).symm⟩
    have hm : m.length = n := by simpa using hl
    have e := ih m hm
    have e1 : opp (m ++ [t]) = [-t] ++ opp m := by simp [opp]
    have hr : red (m ++ [t]) = (push (redS m) t).reverse := by unfold red redS; rw [List.foldl_append]; rfl
    rw [e1, ← red_app, e, show red [-t] = [-t] from rfl, hr]
    have hg := redS_good m
    have hrm : red m = (redS m).reverse := rfl
    rw [hrm]
    cases hS : redS m with
    | nil => rfl
    | cons x r =>
      rw [hS] at hg
      simp only [push]
      by_cases hx : x = -t
      · rw [if_pos hx]
        have hx2 : -x = t := by omega
        have e2 : opp (x :: r).reverse = t :: opp r.reverse := by simp [opp, hx2]
        rw [e2]
        have hgo : Good (opp r.reverse).reverse := by
          simp only [opp, List.reverse_reverse]
          rw [List.map_reverse]
          exact good_neg (good_opp (good_tail hg))
        unfold red redS
        rw [List.cons_append, List.nil_append, List.foldl_cons, List.foldl_cons]
        have hp : push (push [] (-t)) t = [] := by simp [push]
        rw [hp]
        exact good_redS hgo
      · rw [if_neg hx]
        have e2 : [-t] ++ opp (x :: r).reverse = opp (t :: x :: r).reverse := by simp [opp]
        rw [e2]
        refine good_redS ?_
        simp only [opp, List.reverse_reverse]
        rw [List.map_reverse]
        exact good_neg (good_opp (show Good (t :: x :: r) from ⟨hx, hg⟩))
theorem plL_opp (l : List Int) : plL (opp l) = plL l := by unfold plL; rw [redS_opp, opp_opp, mnL_comm]
theorem red_plL (l : List Int) : red (plL l) = plL l := by
  unfold plL
  rcases mnL_mem (red l) (opp (red l)) with h | h
  · rw [h, red_red]
  · rw [h, redS_opp, red_red]
theorem plL_plL (l : List Int) : plL (plL l) = plL l := by
  unfold plL
  rcases mnL_mem (red l) (opp (red l)) with h | h
  · rw [h, red_red, h]
  · rw [h, redS_opp, red_red, opp_opp, mnL_comm, h]
theorem plL_red (l : List Int) : plL (red l) = plL l := by unfold plL; rw [red_red]
theorem plL_len (l : List Int) : (plL l).length = (red l).length := by
  unfold plL
  rcases mnL_mem (red l) (opp (red l)) with h | h <;> rw [h]
  exact opp_len _
theorem plL_steps {l : List Int} (h : ∀ t ∈ l, IsStep t) : ∀ t ∈ plL l, IsStep t := by
  unfold plL
  rcases mnL_mem (red l) (opp (red l)) with e | e <;> rw [e]
  · exact red_steps h
  · exact opp_steps (red_steps h)
/-- two paths, joined -/
def jnL (p q : List Int) : List Int := (jn p.reverse q).reverse
theorem jn_step {p q : List Int} {k : Nat} (hp : k < p.length) (hq : k < q.length) (h : p[p.length - 1 - k] = -q[k]) : jn (p.reverse.drop k) (q.drop k) = jn (p.reverse.drop (k + 1)) (q.drop (k + 1)) := by
  have hr : k < p.reverse.length := by simpa using hp
  rw [List.drop_eq_getElem_cons hr, List.drop_eq_getElem_cons hq]
  simp only [jn]
  rw [List.getElem_reverse, if_pos h]
theorem jn_stop {p q : List Int} {k : Nat} (h : p.length ≤ k ∨ q.length ≤ k ∨ ∃ (hp : k < p.length) (hq : k < q.length), p[p.length - 1 - k] ≠ -q[k]) : (jn (p.reverse.drop k) (q.drop k)).reverse = p.take (p.length - k) ++ q.drop k := by
  have e : (p.reverse.drop k).reverse = p.take (p.length - k) := by rw [List.drop_reverse, List.reverse_reverse]
  rcases h with h | h | ⟨hp, hq, h⟩
  · have : p.reverse.drop k = [] := List.drop_eq_nil_of_le (by simpa using h)
    rw [← e, this]
    simp [jn]
  · rw [← e, List.drop_eq_nil_of_le h]
    cases p.reverse.drop k <;> simp [jn]
  · rw [← e]
    have hr : k < p.reverse.length := by simpa using hp
    rw [List.drop_eq_getElem_cons hr, List.drop_eq_getElem_cons hq]
    simp only [jn]
    rw [List.getElem_reverse, if_neg h]
    simp
end Lm
