/- A region that draws its order: its first operations read and call; then some follow that only hand values on, at whatever time; then operations follow that wait for all that reads and calls, one behind the other: one walk in the order of the text serves every order.
Conditions: the Bool 'lateB' of the region, by the kernel; each of the first operations yields one value in every world of the class. -/
import Derived.Test.YtoafojojhdcmfaaTail
namespace Go.Late
set_option linter.unusedVariables false
set_option linter.unusedSimpArgs false
open Go Go.RowKit Go.Sort Go.Tail

def sinkB (md : Region.Mode) (ops : Array Oper) (n : Nat) : Bool := (List.range (n - 1)).all fun i => (List.range n).any fun j => decide (i < j) && Region.waitsFor md ops j i
def restB (md : Region.Mode) (ops : Array Oper) (n : Nat) : Bool := (List.range ops.size).all fun t => decide (t < n) || Region.waitsFor md ops t (n - 1)
def lateB (md : Region.Mode) (ops : Array Oper) (n p : Nat) : Bool :=
  Region.noSelect ops && decide (0 < n) && decide (n + p < ops.size) && sinkB md ops n && restB md ops n && Region.lexHead md ops (ops.size - (n + p)) (n + p) 0 (Array.replicate ops.size false)

section
variable {P : Program} {ops : Array Oper} {md : Region.Mode} {C : World → Prop}

/-- While one of the first has not come up, none of the others may. -/
theorem waits {n : Nat} {ls : Array Bool} (h0 : 0 < n) (hs : sinkB md ops n = true) (hr : restB md ops n = true) (inv : HeadInv md ops n ls) {i : Nat} (hi : i < n) (hu : ls.getD i true = false) : ∀ t, n ≤ t → t ∉ Region.ready md ops ls := by
  have last : ls.getD (n - 1) true = false := by
    have key : ∀ d i, n - 1 - i = d → i < n → ls.getD i true = false → ls.getD (n - 1) true = false := by
      intro d
      induction d using Nat.strongRecOn with
      | _ d ih =>
        intro i hd hi hu
        by_cases he : i = n - 1
        · rw [← he]; exact hu
        · have h1 := List.all_eq_true.1 hs i (List.mem_range.2 (by omega))
          obtain ⟨j, hj, hj2⟩ := List.any_eq_true.1 h1
          simp only [Bool.and_eq_true, decide_eq_true_eq] at hj2
          have hjn := List.mem_range.1 hj
          obtain ⟨oj, hoj, e, hee, hb, hon⟩ := Region.waitsFor_spec hj2.2
          have hjs : j < ls.size := by rw [inv.size]; exact (Array.getElem?_eq_some_iff.1 hoj).1
          cases hl : ls.getD j false with
          | true =>
            have := inv.closed j oj hoj hl e hee hb
            rw [hon, getD_both hu] at this
            cases this
          | false => exact ih (n - 1 - j) (by omega) j rfl hjn (getD_in hjs hl)
    exact key _ i rfl hi hu
  intro t ht hmem
  obtain ⟨_, ot, hot, hall⟩ := mem_ready.1 hmem
  have hts : t < ops.size := (Array.getElem?_eq_some_iff.1 hot).1
  have h1 := List.all_eq_true.1 hr t (List.mem_range.2 hts)
  simp only [Bool.or_eq_true, decide_eq_true_eq] at h1
  rcases h1 with h1 | h1
  · omega
  · obtain ⟨o', ho', e, he, hb, hon⟩ := Region.waitsFor_spec h1
    obtain rfl : o' = ot := Option.some.inj (ho'.symm.trans hot)
    have h2 := hall e he hb
    rw [hon, getD_both last] at h2
    cases h2

theorem first {n i : Nat} {oi : Oper} {v : Value} {L : Array Bool → Act → Prop} (hi : ops[i]? = some oi) (hsel : ∀ (j : Nat) (o : Oper) cs b, ops[j]? = some o → o.op ≠ .select cs b)
    (h0 : 0 < n) (hs : sinkB md ops n = true) (hc : restB md ops n = true) (hin : i < n) (hdone : ∀ ls a, L ls a → ∀ j, j ∈ Region.ready md ops ls → n ≤ j) (f : Nat) :
    ∀ (ls : Array Bool) (a : Act), HeadInv md ops n ls →
      (∀ j oj, ops[j]? = some oj → j ≠ i → ls.getD j true = false → (∀ e ∈ oj.after, Region.binds md e = true → e.on ≠ i) → oi.apart ops oj = true) →
      i ∈ Region.ready md ops ls → YieldsIn P ops C oi v a →
      heads P md ops C n L f (ls.setIfInBounds i true) (a.put oi.dst v) → heads P md ops C n L (f + 1) ls a := by
  induction f with
  | zero =>
    intro ls a inv _ hr hy H
    have hun := (mem_ready.1 hr).1
    refine ⟨fun no => (by rw [no] at hr; cases hr), fun j hj => ?_⟩
    have hjn : j < n := Nat.lt_of_not_le fun h => waits h0 hs hc inv hin hun j h hj
    by_cases hji : j = i
    · subst hji; exact ⟨hjn, hy.qOp hi H⟩
    · exact absurd (hdone _ _ H j (ready_mono hj hji)) (by omega)
  | succ f ih =>
    intro ls a inv hfree hr hy H
    have hun := (mem_ready.1 hr).1
    refine ⟨fun no => (by rw [no] at hr; cases hr), fun j hj => ?_⟩
    have hjn : j < n := Nat.lt_of_not_le fun h => waits h0 hs hc inv hin hun j h hj
    refine ⟨hjn, ?_⟩
    by_cases hji : j = i
    · subst hji; exact hy.qOp hi H
    · obtain ⟨hjun, oj, hoj, hall⟩ := mem_ready.1 hj
      have notOn : ∀ e ∈ oj.after, Region.binds md e = true → e.on ≠ i := by
        intro e he hb heq
        have h1 := hall e he hb
        rw [heq, getD_both hun] at h1
        cases h1
      have swap := qOp_put hoj (hfree j oj hoj hji hjun notOn) (fun cs b => hsel i oi cs b hi) (fun cs b => hsel j oj cs b hoj) hy (H.2 j (ready_mono hj hji)).2
      refine qOp_mono (fun a' ⟨y', rest⟩ => ?_) swap
      refine ih (ls.setIfInBounds j true) a' (inv.set hj hjn) ?_ (ready_mono hr (Ne.symm hji)) y' ?_
      · intro k ok hk hki hku hno
        refine hfree k ok hk hki ?_ hno
        rcases Nat.decEq j k with hjk | hjk
        · rwa [getD_set_ne true hjk] at hku
        · subst hjk; exact hjun
      · rw [Array.setIfInBounds_comm _ _ hji]
        exact rest

/-- Values that are handed on, in whatever world. -/
def Pures (P : Program) (ops : Array Oper) (K : Act → Prop) (p : Nat) : Nat → Act → Prop :=
  Nat.rec (fun _ a => K a) (fun _ next k a => ∃ o v, ops[k]? = some o ∧ Yields P ops o v a ∧ next (k + 1) (a.put o.dst v)) p

/-- All of the first have come up. -/
def Done (n : Nat) (ls : Array Bool) : Prop := ∀ i, i < n → ls.getD i true = true

theorem lex {n p g : Nat} {K : Act → Prop} (hsel : Region.noSelect ops = true) (h0 : 0 < n) (hs : sinkB md ops n = true) (hc : restB md ops n = true) (hn : n < ops.size) (l : List Oper) :
    ∀ (k : Nat) (ls : Array Bool) (a : Act), (∀ j, j < l.length → l[j]? = ops[k + j]?) → k + l.length = n → HeadInv md ops n ls → Done k ls →
    Region.lexHead md ops g (l.length + p) k ls = true → wpQuiet P ops C K l a →
    heads P md ops C n (fun ls' a' => (Done n ls' ∧ Region.lexHead md ops g p n ls' = true) ∧ K a') l.length ls a := by
  induction l with
  | nil =>
    intro k ls a _ hk _ hd hB h
    obtain rfl : k = n := by simpa using hk
    exact ⟨⟨hd, by simpa using hB⟩, h⟩
  | cons o l ih =>
    intro k ls a hl hk inv hd hB h
    have h1 : ops[k]? = some o := by simpa using (hl 0 (by simp)).symm
    simp only [List.length_cons] at hk
    rw [show (o :: l).length + p = (l.length + p) + 1 by simp only [List.length_cons]; omega] at hB
    simp only [Region.lexHead, Bool.and_eq_true] at hB
    have hr : k ∈ Region.ready md ops ls := by simpa using hB.1.1
    have hq : qOp P ops C k (wpQuiet P ops C K l) a := by unfold qOp; simp only [h1]; exact h
    obtain ⟨v, hy, hK⟩ := yieldsIn_of_qOp h1 hq
    refine first h1 (Region.noSelect_spec hsel) h0 hs hc (by omega) (fun ls' a' hL j hj => ?_) l.length ls a inv (Region.free_spec h1 hB.1.2) hr hy ?_
    · rcases Nat.lt_or_ge j n with h | h
      · have h2 := (mem_ready.1 hj).1
        rw [hL.1.1 j h] at h2
        cases h2
      · exact h
    · refine ih (k + 1) _ _ (fun j hj => ?_) (by omega) (inv.set hr (by omega)) (fun i hi => ?_) hB.2 hK
      · have := hl (j + 1) (by simp; omega)
        simpa [Nat.add_assoc, Nat.add_comm 1 j] using this
      · rcases Nat.decEq k i with h | h
        · rw [getD_set_ne true h]
          exact hd i (by omega)
        · subst h
          have : k < ls.size := by rw [inv.size]; omega
          simp [this]

theorem late_any {g m : Nat} {Q : Exit → Act → World → Prop} {K : Act → Prop} {w : World} (hsel : Region.noSelect ops = true) (hQ : ∀ c a d v w, Q (.panic c) (a.put d v) w → Q (.panic c) a w) (hK : ∀ a ls, Region.seqB md ops g m ls = true → K a → wpAny P md ops Q g ls a w) (p : Nat) :
    ∀ (k : Nat) (ls : Array Bool) (a : Act), k + p = m → Region.lexHead md ops g p k ls = true → Pures P ops K p k a → wpAny P md ops Q (p + g) ls a w := by
  induction p with
  | zero =>
    intro k ls a hk hB h
    obtain rfl : k = m := by simpa using hk
    rw [Nat.zero_add]; exact hK a ls (by simpa [Region.lexHead] using hB) h
  | succ p ih =>
    intro k ls a hk hB h
    simp only [Region.lexHead, Bool.and_eq_true] at hB
    obtain ⟨o, v, ho, hy, hn⟩ := h
    rw [Nat.add_right_comm]
    exact wpAny_take ho hsel hB.1.2 hB.1.1 (fun c a w => hQ c a _ _ w) hy (ih (k + 1) _ _ (by omega) hB.2 hn)

theorem region_late {id : Nat} {Q : Exit → Act → World → Prop} {a : Act} {w : World} {l : List Oper} (n p : Nat) (hm : P.follows .mixedOrders = true) (hB : lateB .any l.toArray n p = true) (hC : C { w with drawn := w.drawn + 1 }) (hQ : ∀ c a d v w, Q (.panic c) (a.put d v) w → Q (.panic c) a w)
    (h : wpQuiet P l.toArray C (fun a' => ∀ w', C w' → Pures P l.toArray (fun a'' => wpList P l.toArray Q (l.drop (n + p)) a'' w') p n a') (l.take n) a) : (Code.region id l.toArray true).wp P Q a w := by
  simp only [lateB, Bool.and_eq_true, decide_eq_true_eq] at hB
  obtain ⟨⟨⟨⟨⟨hsel, h0⟩, hnp⟩, hs⟩, hc⟩, hlex⟩ := hB
  have hn' : n + p < l.length := by simpa using hnp
  have htl : (l.take n).length = n := by simp; omega
  have hdl : (l.drop (n + p)).length = l.toArray.size - (n + p) := by simp
  have inv0 : HeadInv .any l.toArray n (Array.replicate l.toArray.size false) :=
    ⟨by simp, fun j oj _ hl => (by rw [getD_replicate_false] at hl; cases hl), fun t _ ht => getD_in (by simpa using ht) (getD_replicate_false _ _)⟩
  have H := lex (P := P) (C := C) (md := .any) (p := p) (g := l.toArray.size - (n + p)) hsel h0 hs hc (by omega) (l.take n) 0 _ a (fun j hj => by
    rw [htl] at hj
    simp [hj]) (by simpa using htl) inv0 (fun i hi => by omega) (by rw [htl]; exact hlex) h
  refine wp_region_any hm ?_
  have step := heads_any (Q := Q) (g := p + (l.toArray.size - (n + p))) (fun ls a' w' hw' hL =>
    late_any (g := l.toArray.size - (n + p)) (m := n + p) hsel hQ (fun a'' ls' hB' hK => by
      have s := wpAny_of_seq (P := P) (md := .any) (Q' := Q) (l.drop (n + p)) (n + p) ls' a'' w' (fun j => by simp [List.getElem?_drop]) (by rw [hdl]; exact hB') hK
      rwa [hdl] at s) p n ls a' rfl hL.1.2 (hL.2 w' hw')) _ _ _ _ hC H
  rwa [htl, show n + (p + (l.toArray.size - (n + p))) = l.toArray.size by omega] at step
end

/-- Two late ones, at the class 'w, with new blocks'. -/
theorem region_late2 {P : Program} {id : Nat} {Q : Exit → Act → World → Prop} {a : Act} {w : World} {l : List Oper} (n : Nat) (v1 v2 : Value) (hB : lateB .any l.toArray n 2 = true) (hm : P.follows .mixedOrders = true) (hQ : ∀ c a d v w, Q (.panic c) (a.put d v) w → Q (.panic c) a w) (o1 o2 : Oper) (h1 : l.toArray[n]? = some o1) (h2 : l.toArray[n + 1]? = some o2)
    (h : wpQuiet P l.toArray (fun w' => ∃ p : Regrown, w' = grow (redrawn w p.d) p.os) (fun a' => ∀ w', Below w.heap.size w w' → Yields P l.toArray o1 v1 a' ∧ Yields P l.toArray o2 v2 (a'.put o1.dst v1) ∧ wpList P l.toArray Q (l.drop (n + 2)) ((a'.put o1.dst v1).put o2.dst v2) w') (l.take n) a) : (Code.region id l.toArray true).wp P Q a w := by
  refine region_late (C := fun w' => ∃ p : Regrown, w' = grow (redrawn w p.d) p.os) n 2 hm hB ⟨⟨w.drawn + 1, #[]⟩, by rw [grow_empty]; rfl⟩ hQ ?_
  have mono : ∀ (m : List Oper) (b : Act), wpQuiet P l.toArray (fun w' => ∃ p : Regrown, w' = grow (redrawn w p.d) p.os) (fun a' => ∀ w', Below w.heap.size w w' → Yields P l.toArray o1 v1 a' ∧ Yields P l.toArray o2 v2 (a'.put o1.dst v1) ∧ wpList P l.toArray Q (l.drop (n + 2)) ((a'.put o1.dst v1).put o2.dst v2) w') m b →
      wpQuiet P l.toArray (fun w' => ∃ p : Regrown, w' = grow (redrawn w p.d) p.os) (fun a' => ∀ w', (∃ p : Regrown, w' = grow (redrawn w p.d) p.os) → Pures P l.toArray (fun a'' => wpList P l.toArray Q (l.drop (n + 2)) a'' w') 2 n a') m b := by
    intro m
    induction m with
    | nil =>
      intro b hb w' hw'
      obtain ⟨p, rfl⟩ := hw'
      obtain ⟨y1, y2, t⟩ := hb _ (below_regrown w p.d p.os)
      exact ⟨o1, v1, h1, y1, o2, v2, h2, y2, t⟩
    | cons o m ih =>
      intro b hb
      unfold wpQuiet at hb ⊢
      split at hb
      · rename_i hw
        rw [if_pos hw]
        exact Oper.quiet_mono (fun a ha => ih a ha) hb
      · rename_i hw
        rw [if_neg hw]
        exact ih _ hb
  exact mono _ _ h
end Go.Late
