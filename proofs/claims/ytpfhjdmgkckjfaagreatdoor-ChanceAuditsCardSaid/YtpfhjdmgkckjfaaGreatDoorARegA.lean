/- A region that draws its order: its first operations read and call, what they call makes new memory alone; then operations follow that wait for all of these, one behind the other: one walk in the order of the text serves every order.
Conditions: the Bool 'Region.lexTailB' of the region, by the kernel; each of the first operations yields one value in every world of the class. -/
import Derived.StillTail
import Derived.Lib.QuietBelow
namespace Go.Tail
set_option linter.unusedVariables false
set_option linter.unusedSimpArgs false
open Go Go.RowKit Go.Sort

section
variable {P : Program} {ops : Array Oper} {md : Region.Mode} {C : World → Prop}

/-- From here on, whatever is picked is one of the first n, quiet in the class, till f of them have come up; then L. -/
def heads (P : Program) (md : Region.Mode) (ops : Array Oper) (C : World → Prop) (n : Nat) (L : Array Bool → Act → Prop) (f : Nat) : Array Bool → Act → Prop :=
  Nat.rec (fun ls a => L ls a) (fun _ next ls a => Region.ready md ops ls ≠ [] ∧ ∀ i, i ∈ Region.ready md ops ls → i < n ∧ qOp P ops C i (next (ls.setIfInBounds i true)) a) f

theorem heads_any {n g : Nat} {L : Array Bool → Act → Prop} {Q : Exit → Act → World → Prop} (hL : ∀ ls a w, C w → L ls a → wpAny P md ops Q g ls a w) (f : Nat) :
    ∀ (ls : Array Bool) (a : Act) (w : World), C w → heads P md ops C n L f ls a → wpAny P md ops Q (f + g) ls a w := by
  induction f with
  | zero => intro ls a w hw h; rw [Nat.zero_add]; exact hL ls a w hw h
  | succ f ih =>
    intro ls a w hw h
    rw [Nat.add_right_comm]
    exact ⟨fun no => absurd no h.1, fun i hi => wpOp_of_qOp hw (fun a' w' hw' ha' => ih _ a' w' hw' ha') (h.2 i hi).2⟩

/-- One of the first may be taken first. -/
theorem heads_first {n i : Nat} {oi : Oper} {v : Value} {L : Array Bool → Act → Prop} (hi : ops[i]? = some oi) (hsel : ∀ (j : Nat) (o : Oper) cs b, ops[j]? = some o → o.op ≠ .select cs b)
    (hs : Region.sinkB md ops n = true) (hc : Region.chainB md ops n = true) (hn : n < ops.size) (hin : i < n) (hdone : ∀ ls a, L ls a → ∀ j, j ∈ Region.ready md ops ls → n ≤ j) (f : Nat) :
    ∀ (ls : Array Bool) (a : Act), HeadInv md ops n ls →
      (∀ j oj, ops[j]? = some oj → j ≠ i → ls.getD j true = false → (∀ e ∈ oj.after, Region.binds md e = true → e.on ≠ i) → oi.apart ops oj = true) →
      i ∈ Region.ready md ops ls → YieldsIn P ops C oi v a →
      heads P md ops C n L f (ls.setIfInBounds i true) (a.put oi.dst v) → heads P md ops C n L (f + 1) ls a := by
  induction f with
  | zero =>
    intro ls a inv _ hr hy H
    have hun := (mem_ready.1 hr).1
    refine ⟨fun no => (by rw [no] at hr; cases hr), fun j hj => ?_⟩
    have hjn : j < n := Nat.lt_of_not_le fun h => tail_waits hs hc hn inv _ i rfl hin hun j h hj
    by_cases hji : j = i
    · subst hji; exact ⟨hjn, hy.qOp hi H⟩
    · exact absurd (hdone _ _ H j (ready_mono hj hji)) (by omega)
  | succ f ih =>
    intro ls a inv hfree hr hy H
    have hun := (mem_ready.1 hr).1
    refine ⟨fun no => (by rw [no] at hr; cases hr), fun j hj => ?_⟩
    have hjn : j < n := Nat.lt_of_not_le fun h => tail_waits hs hc hn inv _ i rfl hin hun j h hj
    refine ⟨hjn, ?_⟩
    by_cases hji : j = i
    · subst hji; exact hy.qOp hi H
    · obtain ⟨hjun, oj, hoj, hall⟩ := mem_ready.1 hj
      have notOn : ∀ e ∈ oj.after, Region.binds md e = true → e.on ≠ i := by
        intro e he hb heq
        have h1 := hall e he hb
        rw [heq, getD_both hun] at h1
        cases h1
      have swap := qOp_put hoj (hfree j oj hoj hji hjun notOn) (fun cs b => hsel i oi cs b hi) (fun cs b => hsel j oj cs b hoj) hy (H.2 j (ready_mono hj hji)).2
      refine qOp_mono (fun a' ⟨y', rest⟩ => ?_) swap
      refine ih (ls.setIfInBounds j true) a' (inv.set hj hjn) ?_ (ready_mono hr (Ne.symm hji)) y' ?_
      · intro k ok hk hki hku hno
        refine hfree k ok hk hki ?_ hno
        rcases Nat.decEq j k with hjk | hjk
        · rwa [getD_set_ne true hjk] at hku
        · subst hjk; exact hjun
      · rw [Array.setIfInBounds_comm _ _ hji]
        exact rest

theorem heads_lex {n g : Nat} {K : Act → Prop} (hsel : Region.noSelect ops = true) (hs : Region.sinkB md ops n = true) (hc : Region.chainB md ops n = true) (hn : n < ops.size) (l : List Oper) :
    ∀ (k : Nat) (ls : Array Bool) (a : Act), (∀ j, j < l.length → l[j]? = ops[k + j]?) → k + l.length = n → HeadInv md ops n ls →
    Region.lexHead md ops g l.length k ls = true → wpQuiet P ops C K l a →
    heads P md ops C n (fun ls' a' => Region.seqB md ops g n ls' = true ∧ K a') l.length ls a := by
  induction l with
  | nil =>
    intro k ls a _ hk _ hB h
    obtain rfl : k = n := by simpa using hk
    exact ⟨by simpa [Region.lexHead] using hB, h⟩
  | cons o l ih =>
    intro k ls a hl hk inv hB h
    have h0 : ops[k]? = some o := by simpa using (hl 0 (by simp)).symm
    simp only [List.length_cons] at hk
    simp only [List.length_cons, Region.lexHead, Bool.and_eq_true] at hB
    have hr : k ∈ Region.ready md ops ls := by simpa using hB.1.1
    have hq : qOp P ops C k (wpQuiet P ops C K l) a := by unfold qOp; simp only [h0]; exact h
    obtain ⟨v, hy, hK⟩ := yieldsIn_of_qOp h0 hq
    refine heads_first h0 (Region.noSelect_spec hsel) hs hc hn (by omega) (fun ls' a' hL => seqB_ready hL.1) l.length ls a inv (Region.free_spec h0 hB.1.2) hr hy ?_
    refine ih (k + 1) _ _ (fun j hj => ?_) (by omega) (inv.set hr (by omega)) hB.2 hK
    have := hl (j + 1) (by simp; omega)
    simpa [Nat.add_assoc, Nat.add_comm 1 j] using this

theorem region_tail {id : Nat} {Q : Exit → Act → World → Prop} {a : Act} {w : World} {l : List Oper} (n : Nat) (hm : P.follows .mixedOrders = true) (hB : Region.lexTailB .any l.toArray n = true) (hC : C { w with drawn := w.drawn + 1 })
    (h : wpQuiet P l.toArray C (fun a' => ∀ w', C w' → wpList P l.toArray Q (l.drop n) a' w') (l.take n) a) : (Code.region id l.toArray true).wp P Q a w := by
  simp only [Region.lexTailB, Bool.and_eq_true, decide_eq_true_eq] at hB
  obtain ⟨⟨⟨⟨hsel, hn⟩, hs⟩, hc⟩, hlex⟩ := hB
  have htl : (l.take n).length = n := by simp at hn; simp; omega
  have hdl : (l.drop n).length = l.toArray.size - n := by simp
  have inv0 : HeadInv .any l.toArray n (Array.replicate l.toArray.size false) :=
    ⟨by simp, fun j oj _ hl => (by rw [getD_replicate_false] at hl; cases hl), fun t _ ht => getD_in (by simpa using ht) (getD_replicate_false _ _)⟩
  have H := heads_lex (P := P) (C := C) (md := .any) (g := l.toArray.size - n) hsel hs hc hn (l.take n) 0 _ a (fun j hj => by
    rw [htl] at hj
    simp [hj]) (by simpa using htl) inv0 (by rw [htl]; exact hlex) h
  refine wp_region_any hm ?_
  have step := heads_any (Q := Q) (g := l.toArray.size - n) (fun ls a' w' hw' hL => by
    have s := wpAny_of_seq (P := P) (md := .any) (Q' := Q) (l.drop n) n ls a' w' (fun j => by simp [List.getElem?_drop]) (by rw [hdl]; exact hL.1) (hL.2 w' hw')
    rwa [hdl] at s) _ _ _ _ hC H
  rwa [htl, show n + (l.toArray.size - n) = l.toArray.size by omega] at step
end

/-- At the class 'w, with new blocks'. -/
theorem region_tail_below {P : Program} {id : Nat} {Q : Exit → Act → World → Prop} {a : Act} {w : World} {l : List Oper} (n : Nat) (hB : Region.lexTailB .any l.toArray n = true) (hm : P.follows .mixedOrders = true)
    (h : wpQuiet P l.toArray (fun w' => ∃ p : Regrown, w' = grow (redrawn w p.d) p.os) (fun a' => ∀ w', Below w.heap.size w w' → wpList P l.toArray Q (l.drop n) a' w') (l.take n) a) : (Code.region id l.toArray true).wp P Q a w :=
  region_tail (C := fun w' => ∃ p : Regrown, w' = grow (redrawn w p.d) p.os) n hm hB ⟨⟨w.drawn + 1, #[]⟩, by rw [grow_empty]; rfl⟩ (by
    have : (fun a' => ∀ w', Below w.heap.size w w' → wpList P l.toArray Q (l.drop n) a' w') = (fun a' => ∀ w', (∃ p : Regrown, w' = grow (redrawn w p.d) p.os) → wpList P l.toArray Q (l.drop n) a' w') := by
      funext a'
      refine propext ⟨fun H w' hw' => ?_, fun H w' hw' => H w' (regrown_of_below hw')⟩
      obtain ⟨p, rfl⟩ := hw'
      exact H _ (below_regrown w p.d p.os)
    rw [this] at h
    exact h)
/-- The same where all of the region reads and calls. -/
theorem region_below {P : Program} {id : Nat} {Q : Exit → Act → World → Prop} {a : Act} {w : World} {l : List Oper} (hB : Region.lexB .any l.toArray = true) (hm : P.follows .mixedOrders = true)
    (h : wpQuiet P l.toArray (fun w' => ∃ p : Regrown, w' = grow (redrawn w p.d) p.os) (fun a' => ∀ w', Below w.heap.size w w' → Q .normal a' w') l a) : (Code.region id l.toArray true).wp P Q a w :=
  wp_region_quiet_below hm hB (by
    have : (fun a' => ∀ w', Below w.heap.size w w' → Q .normal a' w') = (fun a' => ∀ w', (∃ p : Regrown, w' = grow (redrawn w p.d) p.os) → Q .normal a' w') := by
      funext a'
      refine propext ⟨fun H w' hw' => ?_, fun H w' hw' => H w' (regrown_of_below hw')⟩
      obtain ⟨p, rfl⟩ := hw'
      exact H _ (below_regrown w p.d p.os)
    rw [this] at h
    exact h)
/-- An old cell, in every world of the class. -/
theorem cell_re (W : World) : ∀ (d : Nat) (os : Array Obj) (a : Addr), a.block < W.heap.size → (grow (redrawn W d) os).cell? a = W.cell? a := fun _ _ _ h =>
  (cell?_grow _ _ _ h).trans rfl
/-- Old cells behind a call that made memory alone. -/
theorem cells {w w1 : World} (h : Below w.heap.size w w1) : (∀ b o, b < w.heap.size → w1.cell? ⟨b, o, none⟩ = w.cell? ⟨b, o, none⟩) ∧ (∀ b o, b < w.heap.size → w1.frozen? ⟨b, o, none⟩ = w.frozen? ⟨b, o, none⟩) :=
  ⟨fun _ _ hb => h.cell hb, fun _ _ hb => h.frozen hb⟩
end Go.Tail

/- A region that draws its order: its first operations read and call, what they call makes new memory alone; then new blocks are laid, at whatever time; then operations follow that wait for all of these, one behind the other: one walk in the order of the text serves every order.
Conditions: the Bools of the region, by the kernel; each of the first operations yields one value in every world that has grown. -/
namespace Go.Wide
set_option linter.unusedVariables false
set_option linter.unusedSimpArgs false
open Go Go.RowKit Go.Sort

section
variable {P : Program} {ops : Array Oper} {md : Region.Mode} {w : World} {n m : Nat} {V : Nat → Value} {O : Nat → Obj}

/-- In every world that has grown out of w the operation yields v. -/
def Steady (P : Program) (w : World) (o : Oper) (a : Act) (v : Value) : Prop := ∀ W, Below w.heap.size w W → o.quietAt P a (fun W' => Below W.heap.size W W') W v
def Yields (P : Program) (ops : Array Oper) (w : World) (o : Oper) (a : Act) (v : Value) : Prop :=
  (Region.wanted o (yielded ops a.tmps) = true ∧ Steady P w o a v) ∨ (Region.wanted o (yielded ops a.tmps) = false ∧ v = undef)
/-- The operation lays a new block. -/
def Lays (P : Program) (ops : Array Oper) (o : Oper) (x : Obj) : Prop :=
  ∀ (a : Act) (W : World), Region.wanted o (yielded ops a.tmps) = true ∧ (execOp a.eval o).run P W = .ok (.value (.pointer (some ⟨W.heap.size, 0, none⟩))) (W.alloc x)

/-- One operation, in a world that has grown, and grows behind it. 'U': the blocks that the region has laid. -/
def Dop (P : Program) (ops : Array Oper) (w : World) (n : Nat) (V : Nat → Value) (O : Nat → Obj) (i : Nat) (K : (Nat → Prop) → Act → World → Prop) (U : Nat → Prop) (a : Act) (W : World) : Prop :=
  ∃ o, ops[i]? = some o ∧
    if i < n then Yields P ops w o a (V i) ∧ ∀ W', Below W.heap.size W W' → K U (a.put o.dst (V i)) W'
    else Lays P ops o (O i) ∧ ∀ b W', ¬ U b → w.heap.size ≤ b → Below W.heap.size W W' → W'.heap[b]? = some (O i) → K (fun x => x = b ∨ U x) (a.put o.dst (.pointer (some ⟨b, 0, none⟩))) W'

theorem Dop.mono {i : Nat} {K K' : (Nat → Prop) → Act → World → Prop} {U : Nat → Prop} {a : Act} {W : World} (h : ∀ U' a' W', Below W.heap.size W W' → K U' a' W' → K' U' a' W') (hd : Dop P ops w n V O i K U a W) : Dop P ops w n V O i K' U a W := by
  obtain ⟨o, ho, hd⟩ := hd
  refine ⟨o, ho, ?_⟩
  by_cases hi : i < n
  · rw [if_pos hi] at hd ⊢
    exact ⟨hd.1, fun W' hW' => h _ _ _ hW' (hd.2 W' hW')⟩
  · rw [if_neg hi] at hd ⊢
    exact ⟨hd.1, fun b W' hb hB hW' hx => h _ _ _ hW' (hd.2 b W' hb hB hW' hx)⟩

theorem Yields.put {o p : Oper} {a : Act} {v u : Value} (hap : p.apart ops o = true) (hsel : ∀ cs b, o.op ≠ .select cs b) : Yields P ops w o (a.put p.dst u) v ↔ Yields P ops w o a v := by
  obtain ⟨h1, h2, h3⟩ := Oper.apart_spec hap
  unfold Yields Steady Oper.quietAt
  rw [wanted_put o a p.dst u h1, execOp_put o hsel a p.dst u h1]

/-- Some block that may have been laid. -/
theorem fresh {U : Nat → Prop} {W : World} {x : Obj} (hW : Below w.heap.size w W) (hx : ∃ T : Nat, ∀ x, U x → x < T) : ∃ b W', ¬ U b ∧ w.heap.size ≤ b ∧ Below W.heap.size W W' ∧ W'.heap[b]? = some x := by
  obtain ⟨T, hT⟩ := hx
  have hs := hW.size
  refine ⟨T + W.heap.size, { W with heap := W.heap ++ Array.replicate (T + 1) x }, fun h => by have := hT _ h; omega, by omega, ⟨rfl, rfl, rfl, by simp, fun k hk => by simp [Array.getElem?_append, hk]⟩, ?_⟩
  show (W.heap ++ Array.replicate (T + 1) x)[T + W.heap.size]? = some x
  rw [Array.getElem?_append_right (by omega), Array.getElem?_replicate, if_pos (by omega)]

/-- Two operations that are apart change places. -/
theorem Dop.swap {i j : Nat} {oi oj : Oper} (hi : ops[i]? = some oi) (hj : ops[j]? = some oj) (hap : oi.apart ops oj = true) (hsi : ∀ cs b, oi.op ≠ .select cs b) (hsj : ∀ cs b, oj.op ≠ .select cs b)
    {K : (Nat → Prop) → Act → World → Prop} {U : Nat → Prop} {a : Act} {W : World} (hW : Below w.heap.size w W) (hx : ∃ T : Nat, ∀ x, U x → x < T) (h : Dop P ops w n V O i (fun U a W => Dop P ops w n V O j K U a W) U a W) : Dop P ops w n V O j (fun U a W => Dop P ops w n V O i K U a W) U a W := by
  obtain ⟨h1, h2, h3⟩ := Oper.apart_spec hap
  have hba : oj.apart ops oi = true ∨ True := .inr trivial
  obtain ⟨o, ho, h⟩ := h
  obtain rfl : oi = o := Option.some.inj (hi.symm.trans ho)
  have YJ : ∀ u v, Yields P ops w oj (a.put oi.dst u) v ↔ Yields P ops w oj a v := fun u v => Yields.put hap hsj
  have YI : ∀ u v, Yields P ops w oi (a.put oj.dst u) v ↔ Yields P ops w oi a v := by
    intro u v
    unfold Yields Steady Oper.quietAt
    rw [wanted_put oi a oj.dst u h3, execOp_put oi hsi a oj.dst u h3]
  have comm : ∀ u v, (a.put oj.dst u).put oi.dst v = (a.put oi.dst v).put oj.dst u := fun u v => (Act.put_comm a v u h2).symm
  refine ⟨oj, hj, ?_⟩
  by_cases hin : i < n
  · rw [if_pos hin] at h
    by_cases hjn : j < n
    · rw [if_pos hjn]
      obtain ⟨o, ho, g⟩ := h.2 W (Below.refl _ _)
      obtain rfl : oj = o := Option.some.inj (hj.symm.trans ho)
      rw [if_pos hjn] at g
      refine ⟨(YJ _ _).1 g.1, fun W' hW' => ⟨oi, hi, ?_⟩⟩
      rw [if_pos hin]
      refine ⟨(YI _ _).2 h.1, fun W'' hW'' => ?_⟩
      rw [comm]
      exact g.2 W'' (hW'.trans (hW''.mono hW'.size))
    · rw [if_neg hjn]
      obtain ⟨o, ho, g⟩ := h.2 W (Below.refl _ _)
      obtain rfl : oj = o := Option.some.inj (hj.symm.trans ho)
      rw [if_neg hjn] at g
      refine ⟨g.1, fun b W' hb hB hW' hx' => ⟨oi, hi, ?_⟩⟩
      rw [if_pos hin]
      refine ⟨(YI _ _).2 h.1, fun W'' hW'' => ?_⟩
      rw [comm]
      have hlt : b < W'.heap.size := by
        rcases Nat.lt_or_ge b W'.heap.size with hlt | hge
        · exact hlt
        · simp [Array.getElem?_eq_none hge] at hx'
      exact g.2 b W'' hb hB (hW'.trans (hW''.mono hW'.size)) ((hW''.block b hlt).trans hx')
  · rw [if_neg hin] at h
    by_cases hjn : j < n
    · rw [if_pos hjn]
      have some1 := fresh (x := O i) hW hx
      obtain ⟨b0, W0, hb0, hB0, hW0, hx0⟩ := some1
      obtain ⟨o, ho, g0⟩ := h.2 b0 W0 hb0 hB0 hW0 hx0
      obtain rfl : oj = o := Option.some.inj (hj.symm.trans ho)
      rw [if_pos hjn] at g0
      refine ⟨(YJ _ _).1 g0.1, fun W' hW' => ⟨oi, hi, ?_⟩⟩
      rw [if_neg hin]
      refine ⟨h.1, fun b W'' hb hB hW'' hx'' => ?_⟩
      obtain ⟨o, ho, g⟩ := h.2 b W'' hb hB (hW'.trans (hW''.mono hW'.size)) hx''
      obtain rfl : oj = o := Option.some.inj (hj.symm.trans ho)
      rw [if_pos hjn] at g
      rw [comm]
      exact g.2 W'' (Below.refl _ _)
    · rw [if_neg hjn]
      have lj : Lays P ops oj (O j) := by
        have some1 := fresh (x := O i) hW hx
        obtain ⟨b0, W0, hb0, hB0, hW0, hx0⟩ := some1
        obtain ⟨o, ho, g0⟩ := h.2 b0 W0 hb0 hB0 hW0 hx0
        obtain rfl : oj = o := Option.some.inj (hj.symm.trans ho)
        rw [if_neg hjn] at g0
        exact g0.1
      refine ⟨lj, fun bj Wj hbj hBj hWj hxj => ⟨oi, hi, ?_⟩⟩
      rw [if_neg hin]
      refine ⟨h.1, fun bi Wi hbi hBi hWi hxi => ?_⟩
      have hne : ¬ U bi := fun hmem => hbi (.inr hmem)
      have hneq : bj ≠ bi := fun e => hbi (.inl e.symm)
      obtain ⟨o, ho, g⟩ := h.2 bi Wi hne hBi (hWj.trans (hWi.mono hWj.size)) hxi
      obtain rfl : oj = o := Option.some.inj (hj.symm.trans ho)
      rw [if_neg hjn] at g
      rw [comm]
      have hlt : bj < Wj.heap.size := by
        rcases Nat.lt_or_ge bj Wj.heap.size with hlt | hge
        · exact hlt
        · simp [Array.getElem?_eq_none hge] at hxj
      have hg := g.2 bj Wi (fun h => h.elim (fun e => hneq e) hbj) hBj (Below.refl _ _) ((hWi.block bj hlt).trans hxj)
      have e : (fun x => x = bj ∨ x = bi ∨ U x) = (fun x => x = bi ∨ x = bj ∨ U x) := by funext x; exact propext or_left_comm
      rw [e] at hg
      exact hg

/-- Whatever is picked is one of the first, till f of them have come up; then L. -/
def Heads (P : Program) (md : Region.Mode) (ops : Array Oper) (w : World) (n m : Nat) (V : Nat → Value) (O : Nat → Obj) (L : Array Bool → (Nat → Prop) → Act → World → Prop) (f : Nat) : Array Bool → (Nat → Prop) → Act → World → Prop :=
  Nat.rec (fun ls U a W => L ls U a W) (fun _ next ls U a W => Region.ready md ops ls ≠ [] ∧ ∀ i, i ∈ Region.ready md ops ls → i < m ∧ Dop P ops w n V O i (next (ls.setIfInBounds i true)) U a W) f

def Bounded (U : Nat → Prop) (W : World) : Prop := ∀ x, U x → x < W.heap.size

theorem heads_any {g : Nat} {L : Array Bool → (Nat → Prop) → Act → World → Prop} {Q : Exit → Act → World → Prop} (hL : ∀ ls U a W, Below w.heap.size w W → L ls U a W → wpAny P md ops Q g ls a W) (f : Nat) :
    ∀ (ls : Array Bool) (U : Nat → Prop) (a : Act) (W : World), Below w.heap.size w W → Bounded U W → Heads P md ops w n m V O L f ls U a W → wpAny P md ops Q (f + g) ls a W := by
  induction f with
  | zero => intro ls U a W hW _ h; rw [Nat.zero_add]; exact hL ls U a W hW h
  | succ f ih =>
    intro ls U a W hW hU h
    rw [Nat.add_right_comm]
    refine ⟨fun no => absurd no h.1, fun i hi => ?_⟩
    obtain ⟨_, o, ho, hd⟩ := h.2 i hi
    unfold wpOp
    simp only [ho]
    by_cases hin : i < n
    · rw [if_pos hin] at hd
      rcases hd.1 with ⟨hw, hs⟩ | ⟨hw, hv⟩
      · rw [if_pos hw]
        refine .inl (Oper.wp_of_quiet (C := fun W' => Below W.heap.size W W') (K := fun a' => ∀ W', Below W.heap.size W W' → Heads P md ops w n m V O L f (ls.setIfInBounds i true) U a' W') (Below.refl _ _) (fun a' W' hW' hK => ih _ _ _ _ (hW.trans (hW'.mono hW.size)) (fun x hx => Nat.lt_of_lt_of_le (hU x hx) hW'.size) (hK W' hW')) ⟨V i, fun W' hW' => ?_, hd.2⟩)
        have := hs W' (hW.trans (hW'.mono hW.size))
        unfold Oper.quietAt at this ⊢
        generalize (execOp a.eval o).run P W' = r at this ⊢
        cases r with
        | ok nx w' =>
          cases nx <;> simp only [Oper.quietUpon] at this ⊢
          case value u => exact this
          case skip => exact this
          case enter f args => exact ⟨this.1, this.2.mono fun _ _ ⟨he, hb⟩ => ⟨he, hW'.trans (hb.mono hW'.size)⟩⟩
        | halt x w' => simp only [Oper.quietUpon] at this
      · rw [if_neg (by rw [hw]; exact Bool.false_ne_true), ← hv]
        exact ih _ _ _ _ hW hU (hd.2 W (Below.refl _ _))
    · rw [if_neg hin] at hd
      obtain ⟨hw, hr⟩ := hd.1 a W
      rw [if_pos hw]
      refine .inl ?_
      unfold Oper.wp
      rw [hr]
      have hb : Below W.heap.size W (W.alloc (O i)) := (Below.refl _ _).alloc (Nat.le_refl _) _
      refine ih _ _ _ _ (hW.trans (hb.mono hW.size)) (fun x hx => ?_) (hd.2 W.heap.size (W.alloc (O i)) (fun h => by have := hU _ h; omega) hW.size hb (by show (W.heap.push (O i))[W.heap.size]? = _; simp))
      have hsz : (W.alloc (O i)).heap.size = W.heap.size + 1 := by simp
      rcases hx with rfl | hx
      · omega
      · have := hU x hx; omega

/-- One of the first may be taken first. -/
theorem heads_first {i : Nat} {oi : Oper} {L : Array Bool → (Nat → Prop) → Act → World → Prop} (hi : ops[i]? = some oi) (hsel : ∀ (j : Nat) (o : Oper) cs b, ops[j]? = some o → o.op ≠ .select cs b)
    (hs : Region.sinkB md ops m = true) (hc : Region.chainB md ops m = true) (hn : m < ops.size) (hin : i < m) (hdone : ∀ ls U a W, L ls U a W → ∀ j, j ∈ Region.ready md ops ls → m ≤ j) (f : Nat) :
    ∀ (ls : Array Bool) (U : Nat → Prop) (a : Act) (W : World), Below w.heap.size w W → (∃ T : Nat, ∀ x, U x → x < T) → HeadInv md ops m ls →
      (∀ j oj, ops[j]? = some oj → j ≠ i → ls.getD j true = false → (∀ e ∈ oj.after, Region.binds md e = true → e.on ≠ i) → oi.apart ops oj = true) →
      i ∈ Region.ready md ops ls → Dop P ops w n V O i (Heads P md ops w n m V O L f (ls.setIfInBounds i true)) U a W → Heads P md ops w n m V O L (f + 1) ls U a W := by
  induction f with
  | zero =>
    intro ls U a W hW hU inv _ hr H
    have hun := (mem_ready.1 hr).1
    refine ⟨fun no => (by rw [no] at hr; cases hr), fun j hj => ?_⟩
    have hjn : j < m := Nat.lt_of_not_le fun h => tail_waits hs hc hn inv _ i rfl hin hun j h hj
    by_cases hji : j = i
    · subst hji; exact ⟨hjn, H⟩
    · exfalso
      obtain ⟨o, _, hd⟩ := H
      by_cases h1 : i < n
      · rw [if_pos h1] at hd
        exact absurd (hdone _ _ _ _ (hd.2 W (Below.refl _ _)) j (ready_mono hj hji)) (by omega)
      · rw [if_neg h1] at hd
        obtain ⟨b, W', x1, x2, x3, x4⟩ := fresh (x := O i) hW hU
        exact absurd (hdone _ _ _ _ (hd.2 b W' x1 x2 x3 x4) j (ready_mono hj hji)) (by omega)
  | succ f ih =>
    intro ls U a W hW hU inv hfree hr H
    have hun := (mem_ready.1 hr).1
    refine ⟨fun no => (by rw [no] at hr; cases hr), fun j hj => ?_⟩
    have hjn : j < m := Nat.lt_of_not_le fun h => tail_waits hs hc hn inv _ i rfl hin hun j h hj
    refine ⟨hjn, ?_⟩
    by_cases hji : j = i
    · subst hji; exact H
    · obtain ⟨hjun, oj, hoj, hall⟩ := mem_ready.1 hj
      have notOn : ∀ e ∈ oj.after, Region.binds md e = true → e.on ≠ i := by
        intro e he hb heq
        have h1 := hall e he hb
        rw [heq, getD_both hun] at h1
        cases h1
      have hap := hfree j oj hoj hji hjun notOn
      have H' : Dop P ops w n V O i (fun U' a' W' => Dop P ops w n V O j (Heads P md ops w n m V O L f ((ls.setIfInBounds i true).setIfInBounds j true)) U' a' W') U a W :=
        Dop.mono (fun U' a' W' _ h => (h.2 j (ready_mono hj hji)).2) H
      have sw := Dop.swap hi hoj hap (fun cs b => hsel i oi cs b hi) (fun cs b => hsel j oj cs b hoj) hW hU H'
      have hUb : ∀ b, (∃ T : Nat, ∀ x, (x = b ∨ U x) → x < T) := fun b => by
        obtain ⟨T, hT⟩ := hU
        exact ⟨T + b + 1, fun x hx => by rcases hx with rfl | hx; omega; have := hT x hx; omega⟩
      have fin : ∀ (U' : Nat → Prop) (a' : Act) (W' : World), Below w.heap.size w W' → (∃ T : Nat, ∀ x, U' x → x < T) → Dop P ops w n V O i (Heads P md ops w n m V O L f ((ls.setIfInBounds i true).setIfInBounds j true)) U' a' W' → Heads P md ops w n m V O L (f + 1) (ls.setIfInBounds j true) U' a' W' := fun U' a' W' hW' hU' hd => by
        rw [Array.setIfInBounds_comm _ _ (Ne.symm hji)] at hd
        refine ih (ls.setIfInBounds j true) U' a' W' hW' hU' (inv.set hj hjn) ?_ (ready_mono hr (Ne.symm hji)) hd
        intro k ok hk hki hku hno
        refine hfree k ok hk hki ?_ hno
        rcases Nat.decEq j k with hjk | hjk
        · rwa [getD_set_ne true hjk] at hku
        · subst hjk; exact hjun
      obtain ⟨o, ho, hd⟩ := sw
      refine ⟨o, ho, ?_⟩
      by_cases h1 : j < n
      · rw [if_pos h1] at hd ⊢
        exact ⟨hd.1, fun W' hW' => fin _ _ _ (hW.trans (hW'.mono hW.size)) hU (hd.2 W' hW')⟩
      · rw [if_neg h1] at hd ⊢
        exact ⟨hd.1, fun b W' x1 x2 x3 x4 => fin _ _ _ (hW.trans (x3.mono hW.size)) (hUb b) (hd.2 b W' x1 x2 x3 x4)⟩

/-- The operations in the order of the text. -/
def Chain (P : Program) (ops : Array Oper) (w : World) (n : Nat) (V : Nat → Value) (O : Nat → Obj) (K : (Nat → Prop) → Act → World → Prop) (r : Nat) : Nat → (Nat → Prop) → Act → World → Prop :=
  Nat.rec (fun _ U a W => K U a W) (fun _ next k U a W => Dop P ops w n V O k (next (k + 1)) U a W) r

theorem heads_chain {g : Nat} {K : (Nat → Prop) → Act → World → Prop} (hsel : Region.noSelect ops = true) (hs : Region.sinkB md ops m = true) (hc : Region.chainB md ops m = true) (hn : m < ops.size) (r : Nat) :
    ∀ (k : Nat) (ls : Array Bool) (U : Nat → Prop) (a : Act) (W : World), k + r = m → Below w.heap.size w W → (∃ T : Nat, ∀ x, U x → x < T) → HeadInv md ops m ls → Region.lexHead md ops g r k ls = true → Chain P ops w n V O K r k U a W →
    Heads P md ops w n m V O (fun ls' U' a' W' => Region.seqB md ops g m ls' = true ∧ K U' a' W') r ls U a W := by
  induction r with
  | zero =>
    intro k ls U a W hk _ _ _ hB h
    obtain rfl : k = m := by simpa using hk
    exact ⟨by simpa [Region.lexHead] using hB, h⟩
  | succ r ih =>
    intro k ls U a W hk hW hU inv hB h
    simp only [Region.lexHead, Bool.and_eq_true] at hB
    have hr : k ∈ Region.ready md ops ls := by simpa using hB.1.1
    have hlt : k < ops.size := by omega
    have h0 : ops[k]? = some ops[k] := Array.getElem?_eq_getElem hlt
    refine heads_first h0 (Region.noSelect_spec hsel) hs hc hn (by omega) (fun ls' _ _ _ hL => seqB_ready hL.1) r ls U a W hW hU inv (Region.free_spec h0 hB.1.2) hr ?_
    have hUb : ∀ b, (∃ T : Nat, ∀ x, (x = b ∨ U x) → x < T) := fun b => by
      obtain ⟨T, hT⟩ := hU
      exact ⟨T + b + 1, fun x hx => by rcases hx with rfl | hx; omega; have := hT x hx; omega⟩
    obtain ⟨o, ho, hd⟩ := h
    refine ⟨o, ho, ?_⟩
    by_cases h1 : k < n
    · rw [if_pos h1] at hd ⊢
      exact ⟨hd.1, fun W' hW' => ih (k + 1) _ _ _ _ (by omega) (hW.trans (hW'.mono hW.size)) hU (inv.set hr (by omega)) hB.2 (hd.2 W' hW')⟩
    · rw [if_neg h1] at hd ⊢
      exact ⟨hd.1, fun b W' x1 x2 x3 x4 => ih (k + 1) _ _ _ _ (by omega) (hW.trans (x3.mono hW.size)) (hUb b) (inv.set hr (by omega)) hB.2 (hd.2 b W' x1 x2 x3 x4)⟩

/-- Each of the operations writes a slot of its own. -/
def dstsB (size : Nat) : List Oper → Bool
  | [] => true
  | o :: l => (match o.dst with | some d => decide (d < size) && l.all (fun p => p.dst != some d) | none => false) && dstsB size l

theorem put_size (a : Act) (d : Option Tmp) (v : Value) : (a.put d v).tmps.size = a.tmps.size := by
  cases d with
  | none => rfl
  | some d => simp [Act.put]
theorem put_same (a : Act) (d : Tmp) (v : Value) (h : d < a.tmps.size) : (a.put (some d) v).tmps.getD d undef = v := by
  simp [Act.put, h]
theorem put_other (a : Act) (x : Option Tmp) (d : Tmp) (v : Value) (h : x ≠ some d) : (a.put x v).tmps.getD d undef = a.tmps.getD d undef := by
  cases x with
  | none => rfl
  | some e =>
    have : e ≠ d := fun h' => h (by rw [h'])
    simp only [Act.put, Array.getD_eq_getD_getElem?, Array.getElem?_setIfInBounds_ne this]

/-- What a slot holds that nobody writes any more. -/
theorem quiet_keeps {C : World → Prop} {A : Act} (d : Tmp) (l : List Oper) : ∀ a : Act, (∀ o ∈ l, o.dst ≠ some d) → wpQuiet P ops C (fun a' => a' = A) l a → A.tmps.getD d undef = a.tmps.getD d undef := by
  induction l with
  | nil => intro a _ h; rw [show a = A from h]
  | cons o l ih =>
    intro a hd h
    unfold wpQuiet at h
    have hl : ∀ p ∈ l, p.dst ≠ some d := fun p hp => hd p (List.mem_cons_of_mem _ hp)
    split at h
    · obtain ⟨v, _, h⟩ := h
      rw [ih _ hl h, put_other _ _ _ _ (hd o (List.mem_cons_self ..))]
    · rw [ih _ hl h, put_other _ _ _ _ (hd o (List.mem_cons_self ..))]

/-- The value that an operation leaves. -/
def valOf (ops : Array Oper) (A : Act) (i : Nat) : Value := match ops[i]? with
  | some o => (match o.dst with | some d => A.tmps.getD d undef | none => undef)
  | none => undef

theorem chain_of_quiet {A : Act} {K : (Nat → Prop) → Act → World → Prop} {r : Nat} (l : List Oper) :
    ∀ (k : Nat) (a : Act) (W : World) (U : Nat → Prop), (∀ j, j < l.length → l[j]? = ops[k + j]?) → k + l.length = n → Below w.heap.size w W → dstsB a.tmps.size l = true →
    (∀ B, Below w.heap.size w B → wpQuiet P ops (fun W' => ∃ p : Regrown, W' = grow (redrawn B p.d) p.os) (fun a' => a' = A) l a) →
    (∀ W', Below w.heap.size w W' → Chain P ops w n (valOf ops A) O K r n U A W') → Chain P ops w n (valOf ops A) O K (l.length + r) k U a W := by
  induction l with
  | nil =>
    intro k a W U _ hk hW _ h ht
    obtain rfl : k = n := by simpa using hk
    have e : a = A := h W hW
    subst e
    simpa using ht W hW
  | cons o l ih =>
    intro k a W U hl hk hW hD h ht
    have h0 : ops[k]? = some o := by simpa using (hl 0 (by simp)).symm
    simp only [List.length_cons] at hk
    rw [show (o :: l).length + r = (l.length + r) + 1 by simp only [List.length_cons]; omega]
    simp only [dstsB, Bool.and_eq_true] at hD
    obtain ⟨hd1, hD'⟩ := hD
    cases hdst : o.dst with
    | none => rw [hdst] at hd1; simp at hd1
    | some d =>
      rw [hdst] at hd1
      simp only [Bool.and_eq_true, decide_eq_true_eq, List.all_eq_true, bne_iff_ne, ne_eq] at hd1
      have hval : valOf ops A k = A.tmps.getD d undef := by simp only [valOf, h0, hdst]
      have key : ∀ B, Below w.heap.size w B → (Region.wanted o (yielded ops a.tmps) = true → (∀ W', (∃ p : Regrown, W' = grow (redrawn B p.d) p.os) → o.quietAt P a (fun W' => ∃ p : Regrown, W' = grow (redrawn B p.d) p.os) W' (valOf ops A k)) ∧ wpQuiet P ops (fun W' => ∃ p : Regrown, W' = grow (redrawn B p.d) p.os) (fun a' => a' = A) l (a.put o.dst (valOf ops A k))) ∧
          (Region.wanted o (yielded ops a.tmps) = false → valOf ops A k = undef ∧ wpQuiet P ops (fun W' => ∃ p : Regrown, W' = grow (redrawn B p.d) p.os) (fun a' => a' = A) l (a.put o.dst undef)) := by
        intro B hB
        have hq := h B hB
        unfold wpQuiet at hq
        constructor
        · intro hw
          rw [if_pos hw] at hq
          obtain ⟨v, h1, h2⟩ := hq
          have := quiet_keeps d l _ (fun p hp => hd1.2 p hp) h2
          rw [hdst, put_same _ _ _ hd1.1] at this
          have e : v = valOf ops A k := by rw [hval, this]
          subst e
          exact ⟨h1, h2⟩
        · intro hw
          rw [if_neg (by rw [hw]; exact Bool.false_ne_true)] at hq
          have := quiet_keeps d l _ (fun p hp => hd1.2 p hp) hq
          rw [hdst, put_same _ _ _ hd1.1] at this
          exact ⟨by rw [hval, this], hq⟩
      refine ⟨o, h0, ?_⟩
      rw [if_pos (by omega)]
      have next : ∀ B, Below w.heap.size w B → wpQuiet P ops (fun W' => ∃ p : Regrown, W' = grow (redrawn B p.d) p.os) (fun a' => a' = A) l (a.put o.dst (valOf ops A k)) := fun B hB => by
        cases hw : Region.wanted o (yielded ops a.tmps) with
        | true => exact ((key B hB).1 hw).2
        | false =>
          have := (key B hB).2 hw
          rw [this.1]; exact this.2
      refine ⟨?_, fun W' hW' => ih (k + 1) _ _ _ (fun j hj => by have := hl (j + 1) (by simp; omega); simpa [Nat.add_assoc, Nat.add_comm 1 j] using this) (by omega) (hW.trans (hW'.mono hW.size)) (by rw [put_size]; exact hD') next ht⟩
      cases hw : Region.wanted o (yielded ops a.tmps) with
      | true =>
        refine .inl ⟨hw, fun B hB => ?_⟩
        have h1 := ((key B hB).1 hw).1 B ⟨⟨B.drawn, #[]⟩, by rw [grow_empty]; rfl⟩
        unfold Oper.quietAt at h1 ⊢
        generalize (execOp a.eval o).run P B = res at h1 ⊢
        cases res with
        | ok nx w' =>
          cases nx <;> simp only [Oper.quietUpon] at h1 ⊢
          case value u => exact h1
          case skip => exact h1
          case enter f args => exact ⟨h1.1, h1.2.mono fun _ _ ⟨he, p, hp⟩ => ⟨he, hp ▸ below_regrown B p.d p.os⟩⟩
        | halt x w' => simp only [Oper.quietUpon] at h1
      | false => exact .inr ⟨hw, ((key w (Below.refl _ _)).2 hw).1⟩

theorem region_chain {id : Nat} {Q : Exit → Act → World → Prop} {a A : Act} {l : List Oper} {K : (Nat → Prop) → Act → World → Prop} (hn : n ≤ m) (hm : P.follows .mixedOrders = true) (hB : Region.lexTailB .any l.toArray m = true) (hD : dstsB a.tmps.size (l.take n) = true)
    (h : ∀ B, Below w.heap.size w B → wpQuiet P l.toArray (fun W' => ∃ p : Regrown, W' = grow (redrawn B p.d) p.os) (fun a' => a' = A) (l.take n) a)
    (ht : ∀ W', Below w.heap.size w W' → Chain P l.toArray w n (valOf l.toArray A) O K (m - n) n (fun _ => False) A W')
    (hK : ∀ U a' W', Below w.heap.size w W' → K U a' W' → wpList P l.toArray Q (l.drop m) a' W') : (Code.region id l.toArray true).wp P Q a w := by
  simp only [Region.lexTailB, Bool.and_eq_true, decide_eq_true_eq] at hB
  obtain ⟨⟨⟨⟨hsel, hmn⟩, hs⟩, hc⟩, hlex⟩ := hB
  have hml : m < l.length := by simpa using hmn
  have htl : (l.take n).length = n := by simp; omega
  have hdl : (l.drop m).length = l.toArray.size - m := by simp
  have inv0 : HeadInv .any l.toArray m (Array.replicate l.toArray.size false) :=
    ⟨by simp, fun j oj _ hl => (by rw [getD_replicate_false] at hl; cases hl), fun t _ ht => getD_in (by simpa using ht) (getD_replicate_false _ _)⟩
  have hw1 : Below w.heap.size w { w with drawn := w.drawn + 1 } := ⟨rfl, rfl, rfl, Nat.le_refl _, fun _ _ => rfl⟩
  have C := chain_of_quiet (P := P) (O := O) (K := K) (r := m - n) (l.take n) 0 a { w with drawn := w.drawn + 1 } (fun _ => False) (fun j hj => by rw [htl] at hj; simp [hj]) (by simpa using htl) hw1 hD h ht
  rw [htl, show n + (m - n) = m by omega] at C
  have H := heads_chain (P := P) (md := .any) (g := l.toArray.size - m) hsel hs hc hmn m 0 _ (fun _ => False) a _ (by omega) hw1 ⟨0, fun x hx => hx.elim⟩ inv0 hlex C
  refine wp_region_any hm ?_
  have step := heads_any (Q := Q) (g := l.toArray.size - m) (fun ls U a' W' hW' hL => by
    have s := wpAny_of_seq (P := P) (md := .any) (Q' := Q) (l.drop m) m ls a' W' (fun j => by simp [List.getElem?_drop]) (by rw [hdl]; exact hL.1) (hK U a' W' hW' hL.2)
    rwa [hdl] at s) _ _ _ _ _ hw1 (fun x hx => hx.elim) H
  rwa [show m + (l.toArray.size - m) = l.toArray.size by omega] at step
end

/-- One block is laid. -/
theorem region_one {P : Program} {id : Nat} {Q : Exit → Act → World → Prop} {a A : Act} {w : World} {l : List Oper} (n : Nat) (x : Obj) (d : Option Tmp) (hB : Region.lexTailB .any l.toArray (n + 1) = true) (hm : P.follows .mixedOrders = true) (hD : dstsB a.tmps.size (l.take n) = true)
    (hx : ∃ o, l.toArray[n]? = some o ∧ o.dst = d ∧ Lays P l.toArray o x)
    (h : ∀ B, Below w.heap.size w B → wpQuiet P l.toArray (fun W' => ∃ p : Regrown, W' = grow (redrawn B p.d) p.os) (fun a' => a' = A) (l.take n) a)
    (t : ∀ b W', w.heap.size ≤ b → Below w.heap.size w W' → W'.heap[b]? = some x → wpList P l.toArray Q (l.drop (n + 1)) (A.put d (.pointer (some ⟨b, 0, none⟩))) W') : (Code.region id l.toArray true).wp P Q a w := by
  refine region_chain (n := n) (m := n + 1) (A := A) (O := fun _ => x) (K := fun U a' W' => wpList P l.toArray Q (l.drop (n + 1)) a' W') (by omega) hm hB hD h ?_ (fun _ _ _ _ h => h)
  intro W' hW'
  obtain ⟨o, ho, hod, hl⟩ := hx
  rw [show n + 1 - n = 0 + 1 by omega]
  refine ⟨o, ho, ?_⟩
  rw [if_neg (Nat.lt_irrefl n)]
  refine ⟨hl, fun b W'' _ hb hW'' hx'' => ?_⟩
  rw [hod]
  exact t b W'' hb (hW'.trans (hW''.mono hW'.size)) hx''

/-! ### What a block that was laid holds -/
theorem cell_at {W : World} {b : Nat} {cs : Array Value} {T : TypeId} (h : W.heap[b]? = some (.cells cs T)) (j : Nat) (v : Value) (hv : cs[j]? = some v) : W.cell? ⟨b, j, none⟩ = some v := by
  simp [World.cell?, h, hv]
theorem free_at {W : World} {b : Nat} {cs : Array Value} {T : TypeId} (h : W.heap[b]? = some (.cells cs T)) (j : Nat) : W.frozen? ⟨b, j, none⟩ = false := by
  simp [World.frozen?, h]
end Go.Wide

/- A region that draws its order: its first operations read and call; then some follow that only hand values on, at whatever time; then operations follow that wait for all that reads and calls, one behind the other: one walk in the order of the text serves every order.
Conditions: the Bool 'lateB' of the region, by the kernel; each of the first operations yields one value in every world of the class. -/
namespace Go.Late
set_option linter.unusedVariables false
set_option linter.unusedSimpArgs false
open Go Go.RowKit Go.Sort Go.Tail

def sinkB (md : Region.Mode) (ops : Array Oper) (n : Nat) : Bool := (List.range (n - 1)).all fun i => (List.range n).any fun j => decide (i < j) && Region.waitsFor md ops j i
def restB (md : Region.Mode) (ops : Array Oper) (n : Nat) : Bool := (List.range ops.size).all fun t => decide (t < n) || Region.waitsFor md ops t (n - 1)
def lateB (md : Region.Mode) (ops : Array Oper) (n p : Nat) : Bool :=
  Region.noSelect ops && decide (0 < n) && decide (n + p < ops.size) && sinkB md ops n && restB md ops n && Region.lexHead md ops (ops.size - (n + p)) (n + p) 0 (Array.replicate ops.size false)

section
variable {P : Program} {ops : Array Oper} {md : Region.Mode} {C : World → Prop}

/-- While one of the first has not come up, none of the others may. -/
theorem waits {n : Nat} {ls : Array Bool} (h0 : 0 < n) (hs : sinkB md ops n = true) (hr : restB md ops n = true) (inv : HeadInv md ops n ls) {i : Nat} (hi : i < n) (hu : ls.getD i true = false) : ∀ t, n ≤ t → t ∉ Region.ready md ops ls := by
  have last : ls.getD (n - 1) true = false := by
    have key : ∀ d i, n - 1 - i = d → i < n → ls.getD i true = false → ls.getD (n - 1) true = false := by
      intro d
      induction d using Nat.strongRecOn with
      | _ d ih =>
        intro i hd hi hu
        by_cases he : i = n - 1
        · rw [← he]; exact hu
        · have h1 := List.all_eq_true.1 hs i (List.mem_range.2 (by omega))
          obtain ⟨j, hj, hj2⟩ := List.any_eq_true.1 h1
          simp only [Bool.and_eq_true, decide_eq_true_eq] at hj2
          have hjn := List.mem_range.1 hj
          obtain ⟨oj, hoj, e, hee, hb, hon⟩ := Region.waitsFor_spec hj2.2
          have hjs : j < ls.size := by rw [inv.size]; exact (Array.getElem?_eq_some_iff.1 hoj).1
          cases hl : ls.getD j false with
          | true =>
            have := inv.closed j oj hoj hl e hee hb
            rw [hon, getD_both hu] at this
            cases this
          | false => exact ih (n - 1 - j) (by omega) j rfl hjn (getD_in hjs hl)
    exact key _ i rfl hi hu
  intro t ht hmem
  obtain ⟨_, ot, hot, hall⟩ := mem_ready.1 hmem
  have hts : t < ops.size := (Array.getElem?_eq_some_iff.1 hot).1
  have h1 := List.all_eq_true.1 hr t (List.mem_range.2 hts)
  simp only [Bool.or_eq_true, decide_eq_true_eq] at h1
  rcases h1 with h1 | h1
  · omega
  · obtain ⟨o', ho', e, he, hb, hon⟩ := Region.waitsFor_spec h1
    obtain rfl : o' = ot := Option.some.inj (ho'.symm.trans hot)
    have h2 := hall e he hb
    rw [hon, getD_both last] at h2
    cases h2

theorem first {n i : Nat} {oi : Oper} {v : Value} {L : Array Bool → Act → Prop} (hi : ops[i]? = some oi) (hsel : ∀ (j : Nat) (o : Oper) cs b, ops[j]? = some o → o.op ≠ .select cs b)
    (h0 : 0 < n) (hs : sinkB md ops n = true) (hc : restB md ops n = true) (hin : i < n) (hdone : ∀ ls a, L ls a → ∀ j, j ∈ Region.ready md ops ls → n ≤ j) (f : Nat) :
    ∀ (ls : Array Bool) (a : Act), HeadInv md ops n ls →
      (∀ j oj, ops[j]? = some oj → j ≠ i → ls.getD j true = false → (∀ e ∈ oj.after, Region.binds md e = true → e.on ≠ i) → oi.apart ops oj = true) →
      i ∈ Region.ready md ops ls → YieldsIn P ops C oi v a →
      heads P md ops C n L f (ls.setIfInBounds i true) (a.put oi.dst v) → heads P md ops C n L (f + 1) ls a := by
  induction f with
  | zero =>
    intro ls a inv _ hr hy H
    have hun := (mem_ready.1 hr).1
    refine ⟨fun no => (by rw [no] at hr; cases hr), fun j hj => ?_⟩
    have hjn : j < n := Nat.lt_of_not_le fun h => waits h0 hs hc inv hin hun j h hj
    by_cases hji : j = i
    · subst hji; exact ⟨hjn, hy.qOp hi H⟩
    · exact absurd (hdone _ _ H j (ready_mono hj hji)) (by omega)
  | succ f ih =>
    intro ls a inv hfree hr hy H
    have hun := (mem_ready.1 hr).1
    refine ⟨fun no => (by rw [no] at hr; cases hr), fun j hj => ?_⟩
    have hjn : j < n := Nat.lt_of_not_le fun h => waits h0 hs hc inv hin hun j h hj
    refine ⟨hjn, ?_⟩
    by_cases hji : j = i
    · subst hji; exact hy.qOp hi H
    · obtain ⟨hjun, oj, hoj, hall⟩ := mem_ready.1 hj
      have notOn : ∀ e ∈ oj.after, Region.binds md e = true → e.on ≠ i := by
        intro e he hb heq
        have h1 := hall e he hb
        rw [heq, getD_both hun] at h1
        cases h1
      have swap := qOp_put hoj (hfree j oj hoj hji hjun notOn) (fun cs b => hsel i oi cs b hi) (fun cs b => hsel j oj cs b hoj) hy (H.2 j (ready_mono hj hji)).2
      refine qOp_mono (fun a' ⟨y', rest⟩ => ?_) swap
      refine ih (ls.setIfInBounds j true) a' (inv.set hj hjn) ?_ (ready_mono hr (Ne.symm hji)) y' ?_
      · intro k ok hk hki hku hno
        refine hfree k ok hk hki ?_ hno
        rcases Nat.decEq j k with hjk | hjk
        · rwa [getD_set_ne true hjk] at hku
        · subst hjk; exact hjun
      · rw [Array.setIfInBounds_comm _ _ hji]
        exact rest

/-- Values that are handed on, in whatever world. -/
def Pures (P : Program) (ops : Array Oper) (K : Act → Prop) (p : Nat) : Nat → Act → Prop :=
  Nat.rec (fun _ a => K a) (fun _ next k a => ∃ o v, ops[k]? = some o ∧ Yields P ops o v a ∧ next (k + 1) (a.put o.dst v)) p

/-- All of the first have come up. -/
def Done (n : Nat) (ls : Array Bool) : Prop := ∀ i, i < n → ls.getD i true = true

theorem lex {n p g : Nat} {K : Act → Prop} (hsel : Region.noSelect ops = true) (h0 : 0 < n) (hs : sinkB md ops n = true) (hc : restB md ops n = true) (hn : n < ops.size) (l : List Oper) :
    ∀ (k : Nat) (ls : Array Bool) (a : Act), (∀ j, j < l.length → l[j]? = ops[k + j]?) → k + l.length = n → HeadInv md ops n ls → Done k ls →
    Region.lexHead md ops g (l.length + p) k ls = true → wpQuiet P ops C K l a →
    heads P md ops C n (fun ls' a' => (Done n ls' ∧ Region.lexHead md ops g p n ls' = true) ∧ K a') l.length ls a := by
  induction l with
  | nil =>
    intro k ls a _ hk _ hd hB h
    obtain rfl : k = n := by simpa using hk
    exact ⟨⟨hd, by simpa using hB⟩, h⟩
  | cons o l ih =>
    intro k ls a hl hk inv hd hB h
    have h1 : ops[k]? = some o := by simpa using (hl 0 (by simp)).symm
    simp only [List.length_cons] at hk
    rw [show (o :: l).length + p = (l.length + p) + 1 by simp only [List.length_cons]; omega] at hB
    simp only [Region.lexHead, Bool.and_eq_true] at hB
    have hr : k ∈ Region.ready md ops ls := by simpa using hB.1.1
    have hq : qOp P ops C k (wpQuiet P ops C K l) a := by unfold qOp; simp only [h1]; exact h
    obtain ⟨v, hy, hK⟩ := yieldsIn_of_qOp h1 hq
    refine first h1 (Region.noSelect_spec hsel) h0 hs hc (by omega) (fun ls' a' hL j hj => ?_) l.length ls a inv (Region.free_spec h1 hB.1.2) hr hy ?_
    · rcases Nat.lt_or_ge j n with h | h
      · have h2 := (mem_ready.1 hj).1
        rw [hL.1.1 j h] at h2
        cases h2
      · exact h
    · refine ih (k + 1) _ _ (fun j hj => ?_) (by omega) (inv.set hr (by omega)) (fun i hi => ?_) hB.2 hK
      · have := hl (j + 1) (by simp; omega)
        simpa [Nat.add_assoc, Nat.add_comm 1 j] using this
      · rcases Nat.decEq k i with h | h
        · rw [getD_set_ne true h]
          exact hd i (by omega)
        · subst h
          have : k < ls.size := by rw [inv.size]; omega
          simp [this]

theorem late_any {g m : Nat} {Q : Exit → Act → World → Prop} {K : Act → Prop} {w : World} (hsel : Region.noSelect ops = true) (hQ : ∀ c a d v w, Q (.panic c) (a.put d v) w → Q (.panic c) a w) (hK : ∀ a ls, Region.seqB md ops g m ls = true → K a → wpAny P md ops Q g ls a w) (p : Nat) :
    ∀ (k : Nat) (ls : Array Bool) (a : Act), k + p = m → Region.lexHead md ops g p k ls = true → Pures P ops K p k a → wpAny P md ops Q (p + g) ls a w := by
  induction p with
  | zero =>
    intro k ls a hk hB h
    obtain rfl : k = m := by simpa using hk
    rw [Nat.zero_add]; exact hK a ls (by simpa [Region.lexHead] using hB) h
  | succ p ih =>
    intro k ls a hk hB h
    simp only [Region.lexHead, Bool.and_eq_true] at hB
    obtain ⟨o, v, ho, hy, hn⟩ := h
    rw [Nat.add_right_comm]
    exact wpAny_take ho hsel hB.1.2 hB.1.1 (fun c a w => hQ c a _ _ w) hy (ih (k + 1) _ _ (by omega) hB.2 hn)

theorem region_late {id : Nat} {Q : Exit → Act → World → Prop} {a : Act} {w : World} {l : List Oper} (n p : Nat) (hm : P.follows .mixedOrders = true) (hB : lateB .any l.toArray n p = true) (hC : C { w with drawn := w.drawn + 1 }) (hQ : ∀ c a d v w, Q (.panic c) (a.put d v) w → Q (.panic c) a w)
    (h : wpQuiet P l.toArray C (fun a' => ∀ w', C w' → Pures P l.toArray (fun a'' => wpList P l.toArray Q (l.drop (n + p)) a'' w') p n a') (l.take n) a) : (Code.region id l.toArray true).wp P Q a w := by
  simp only [lateB, Bool.and_eq_true, decide_eq_true_eq] at hB
  obtain ⟨⟨⟨⟨⟨hsel, h0⟩, hnp⟩, hs⟩, hc⟩, hlex⟩ := hB
  have hn' : n + p < l.length := by simpa using hnp
  have htl : (l.take n).length = n := by simp; omega
  have hdl : (l.drop (n + p)).length = l.toArray.size - (n + p) := by simp
  have inv0 : HeadInv .any l.toArray n (Array.replicate l.toArray.size false) :=
    ⟨by simp, fun j oj _ hl => (by rw [getD_replicate_false] at hl; cases hl), fun t _ ht => getD_in (by simpa using ht) (getD_replicate_false _ _)⟩
  have H := lex (P := P) (C := C) (md := .any) (p := p) (g := l.toArray.size - (n + p)) hsel h0 hs hc (by omega) (l.take n) 0 _ a (fun j hj => by
    rw [htl] at hj
    simp [hj]) (by simpa using htl) inv0 (fun i hi => by omega) (by rw [htl]; exact hlex) h
  refine wp_region_any hm ?_
  have step := heads_any (Q := Q) (g := p + (l.toArray.size - (n + p))) (fun ls a' w' hw' hL =>
    late_any (g := l.toArray.size - (n + p)) (m := n + p) hsel hQ (fun a'' ls' hB' hK => by
      have s := wpAny_of_seq (P := P) (md := .any) (Q' := Q) (l.drop (n + p)) (n + p) ls' a'' w' (fun j => by simp [List.getElem?_drop]) (by rw [hdl]; exact hB') hK
      rwa [hdl] at s) p n ls a' rfl hL.1.2 (hL.2 w' hw')) _ _ _ _ hC H
  rwa [htl, show n + (p + (l.toArray.size - (n + p))) = l.toArray.size by omega] at step
end

/-- Two late ones, at the class 'w, with new blocks'. -/
theorem region_late2 {P : Program} {id : Nat} {Q : Exit → Act → World → Prop} {a : Act} {w : World} {l : List Oper} (n : Nat) (v1 v2 : Value) (hB : lateB .any l.toArray n 2 = true) (hm : P.follows .mixedOrders = true) (hQ : ∀ c a d v w, Q (.panic c) (a.put d v) w → Q (.panic c) a w) (o1 o2 : Oper) (h1 : l.toArray[n]? = some o1) (h2 : l.toArray[n + 1]? = some o2)
    (h : wpQuiet P l.toArray (fun w' => ∃ p : Regrown, w' = grow (redrawn w p.d) p.os) (fun a' => ∀ w', Below w.heap.size w w' → Yields P l.toArray o1 v1 a' ∧ Yields P l.toArray o2 v2 (a'.put o1.dst v1) ∧ wpList P l.toArray Q (l.drop (n + 2)) ((a'.put o1.dst v1).put o2.dst v2) w') (l.take n) a) : (Code.region id l.toArray true).wp P Q a w := by
  refine region_late (C := fun w' => ∃ p : Regrown, w' = grow (redrawn w p.d) p.os) n 2 hm hB ⟨⟨w.drawn + 1, #[]⟩, by rw [grow_empty]; rfl⟩ hQ ?_
  have mono : ∀ (m : List Oper) (b : Act), wpQuiet P l.toArray (fun w' => ∃ p : Regrown, w' = grow (redrawn w p.d) p.os) (fun a' => ∀ w', Below w.heap.size w w' → Yields P l.toArray o1 v1 a' ∧ Yields P l.toArray o2 v2 (a'.put o1.dst v1) ∧ wpList P l.toArray Q (l.drop (n + 2)) ((a'.put o1.dst v1).put o2.dst v2) w') m b →
      wpQuiet P l.toArray (fun w' => ∃ p : Regrown, w' = grow (redrawn w p.d) p.os) (fun a' => ∀ w', (∃ p : Regrown, w' = grow (redrawn w p.d) p.os) → Pures P l.toArray (fun a'' => wpList P l.toArray Q (l.drop (n + 2)) a'' w') 2 n a') m b := by
    intro m
    induction m with
    | nil =>
      intro b hb w' hw'
      obtain ⟨p, rfl⟩ := hw'
      obtain ⟨y1, y2, t⟩ := hb _ (below_regrown w p.d p.os)
      exact ⟨o1, v1, h1, y1, o2, v2, h2, y2, t⟩
    | cons o m ih =>
      intro b hb
      unfold wpQuiet at hb ⊢
      split at hb
      · rename_i hw
        rw [if_pos hw]
        exact Oper.quiet_mono (fun a ha => ih a ha) hb
      · rename_i hw
        rw [if_neg hw]
        exact ih _ hb
  exact mono _ _ h
end Go.Late
