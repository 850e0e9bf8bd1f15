/- Plain forms, sums and multiples of sums of loops, as the program makes them.
Conditions: those written at each theorem. -/
import Derived.Test.YtjidbajcnomceaaGreatLoopQ
import Derived.Test.YtjidbajcnomceaaGreatLoopU
namespace Go.Proofs.YtjidbajcnomceaaGreat
set_option linter.unusedVariables false
set_option linter.unusedSimpArgs false
set_option maxRecDepth 1000000
open Go.RowKit
open Um Tm Lm

/-- terms with their plain paths -/
def plo (l : List Trm) : List Trm := l.map fun t => (t.1, plL t.2)
theorem pl3_rd {ts : List T3} {l : List Trm} (h : tm3 ts = rdT l) : pl3 ts = plo l := by
  have e1 : pl3 ts = (tm3 ts).map fun t => (t.1, plp t.2) := by simp [pl3, tm3, Function.comp_def]
  rw [e1, h]
  simp [rdT, plo, plp, plL, Function.comp_def]
/-- what a function that makes a sum answers -/
def RetP (B : Nat) (L : List Trm) (e : Ending) (w' : World) : Prop :=
  (vT (plT L) = 0 ∧ ∃ a c, ∃ es : List E, e = .returned (.tuple #[.slice a es.length c, .int .i64 0]) ∧ TrsN w' B a es ∧ tm es = plT L) ∨ (vT (plT L) ≠ 0 ∧ e = .returned (.tuple #[.slice none 0 0, .int .i64 3]))
structure Okt (n : Nat) (c : Int) (ts : List T3) : Prop where
  len : ts.length ≤ 10000
  p : ∀ t ∈ ts, t.p.length ≤ n ∧ (∀ s ∈ t.p, IsStep s) ∧ -c ≤ t.c ∧ t.c ≤ c
theorem okt_rd {ts : List T3} {l : List Trm} (h : tm3 ts = rdT l) (hv : vT l = 0) : Okt 8 1000 ts ∧ ts.length = l.length := by
  have hok := vT_ok hv
  have hlen : ts.length = l.length := by
    have := congrArg List.length h
    simpa [tm3, rdT] using this
  refine ⟨⟨by omega, fun t ht => ?_⟩, hlen⟩
  have hm : (t.c, t.p) ∈ rdT l := by rw [← h]; exact List.mem_map.2 ⟨t, ht, rfl⟩
  obtain ⟨x, hx, he⟩ := List.mem_map.1 hm
  simp only [Prod.mk.injEq] at he
  obtain ⟨e1, e2⟩ := he
  obtain ⟨h1, h2, h3⟩ := hok.2 x hx
  rw [← e1, ← e2]
  exact ⟨Nat.le_trans (red_len _) h2, red_steps h3, h1.1, h1.2⟩
theorem plain_ok (B : Nat) (ao : Option Addr) (cap : Nat) (ts : List T3) (w : World) (h : Tr3 w B ao ts) (hB : B ≤ w.heap.size) (ho : Okt 16 1000000000 ts) :
    Calls Tryz.prog 88 #[.slice ao ts.length cap] w fun e w' => ∃ a c, ∃ es : List E, e = .returned (.slice a es.length c) ∧ TrsN w' B a es ∧ tm es = plT (pl3 ts) ∧ Below w.heap.size w w' :=
  plain_any B ao cap ts w h hB (fun t ht => ho.p t ht) ho.len
theorem Okt.le {n m : Nat} {c d : Int} {ts : List T3} (h : Okt n c ts) (hn : n ≤ m) (hc : c ≤ d) : Okt m d ts :=
  ⟨h.len, fun t ht => by obtain ⟨h1, h2, h3, h4⟩ := h.p t ht; exact ⟨by omega, h2, by omega, by omega⟩⟩
theorem es_small {ts : List T3} {es : List E} (h : Okt 16 1000000000 ts) (he : tm es = plT (pl3 ts)) : es.length ≤ 1000000 ∧ ∀ e ∈ es, e.p.length ≤ 1000000 := by
  have h1 := plT_len (pl3 ts)
  rw [← he, tm_len, pl3_len] at h1
  refine ⟨by have := h.len; omega, fun e hem => ?_⟩
  have hm : (e.c, e.p) ∈ plT (pl3 ts) := by rw [← he]; exact List.mem_map.2 ⟨e, hem, rfl⟩
  obtain ⟨t, ht, hp⟩ := coll_path (List.mem_filter.1 hm).1
  obtain ⟨x, hx, rfl⟩ := List.mem_map.1 ht
  simp only at hp
  rw [hp, plp_len]
  have := (h.p x hx).1
  omega
theorem limited_ok (B : Nat) (ao : Option Addr) (cap : Nat) (l : List E) (w : World) (h : TrsN w B ao l) (hl : l.length ≤ 1000000 ∧ ∀ e ∈ l, e.p.length ≤ 1000000) (hv : vT (tm l) = 0) : Calls Tryz.prog 87 #[.slice ao l.length cap] w fun e w' => e = .returned (.tuple #[.slice ao l.length cap, .int .i64 0]) ∧ TrsN w' B ao l ∧ Below w.heap.size w w' := by
  have := limited_any B ao cap l w h hl.1 hl.2
  simpa only [if_pos hv] using this
theorem limited_no (B : Nat) (ao : Option Addr) (cap : Nat) (l : List E) (w : World) (h : TrsN w B ao l) (hl : l.length ≤ 1000000 ∧ ∀ e ∈ l, e.p.length ≤ 1000000) (hv : vT (tm l) ≠ 0) : Calls Tryz.prog 87 #[.slice ao l.length cap] w fun e w' => e = .returned (.tuple #[.slice none 0 0, .int .i64 3]) ∧ TrsN w' B ao l ∧ Below w.heap.size w w' := by
  have := limited_any B ao cap l w h hl.1 hl.2
  simpa only [if_neg hv] using this

/-- terms of which the first ones are multiplied -/
def mulT (k : Int) (i : Nat) (ts : List T3) : List T3 := ts.mapIdx fun j t => if j < i then { t with c := t.c * k } else t
theorem mulT_len (k : Int) (i : Nat) (ts : List T3) : (mulT k i ts).length = ts.length := by simp [mulT]
theorem mulT_zero (k : Int) (ts : List T3) : mulT k 0 ts = ts := by
  unfold mulT
  apply List.ext_getElem?
  intro j
  simp
theorem mulT_get (k : Int) (i : Nat) (ts : List T3) (h : i < ts.length) : (mulT k i ts)[i]? = some ts[i] := by
  unfold mulT
  rw [List.getElem?_mapIdx, List.getElem?_eq_getElem h]
  simp
theorem mulT_set (k : Int) (i : Nat) (ts : List T3) (h : i < ts.length) : (mulT k i ts).set i { ts[i] with c := ts[i].c * k } = mulT k (i + 1) ts := by
  unfold mulT
  apply List.ext_getElem?
  intro j
  rw [List.getElem?_set]
  by_cases hj : i = j
  · subst hj
    rw [if_pos rfl, if_pos (by simpa using h), List.getElem?_mapIdx, List.getElem?_eq_getElem h]
    simp
  · rw [if_neg hj, List.getElem?_mapIdx, List.getElem?_mapIdx]
    cases ts[j]? with
    | none => rfl
    | some t =>
      simp only [Option.map_some]
      congr 1
      by_cases h1 : j < i
      · rw [if_pos h1, if_pos (by omega)]
      · rw [if_neg h1, if_neg (by omega)]
theorem mulT_all (k : Int) (ts : List T3) : mulT k ts.length ts = ts.map fun t => { t with c := t.c * k } := by
  unfold mulT
  apply List.ext_getElem?
  intro j
  rw [List.getElem?_mapIdx, List.getElem?_map]
  cases hj : ts[j]? with
  | none => rfl
  | some t =>
    have : j < ts.length := (List.getElem?_eq_some_iff.1 hj).1
    simp [this]
theorem flat_set (ts : List T3) (i : Nat) (x : T3) (h : i < ts.length) (hx : tc x = (tc ts[i]).set 0 (.int .i64 x.c)) : (ts.flatMap tc).set (i * 3) (.int .i64 x.c) = (ts.set i x).flatMap tc := by
  induction ts generalizing i with
  | nil => simp at h
  | cons t ts ih =>
    cases i with
    | zero =>
      simp only [List.set_cons_zero, List.flatMap_cons, Nat.zero_mul]
      rw [List.set_append_left _ _ (by rw [tc_len]; omega), hx]
      rfl
    | succ i =>
      simp only [List.set_cons_succ, List.flatMap_cons]
      rw [List.set_append_right _ _ (by rw [tc_len]; omega), tc_len, show (i + 1) * 3 - 3 = i * 3 by omega]
      rw [ih i (by simpa using h) (by simpa using hx)]
end Go.Proofs.YtjidbajcnomceaaGreat
