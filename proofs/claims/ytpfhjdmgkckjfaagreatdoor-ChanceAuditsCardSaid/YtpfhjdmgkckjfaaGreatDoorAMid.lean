/- A region that draws its order, in the order of its text: first operations that read and call; then new blocks are laid and values handed on, in whatever order and at whatever time; then operations that wait for what they need: one walk in the order of the text serves every order that the draw allows.
Conditions: the Bool 'sortB' of the region, by the kernel; each of the first operations yields one value in every world that has grown. -/
import Derived.Test.YtpfhjdmgkckjfaaGreatDoorARegA
namespace Go.Mid
set_option linter.unusedVariables false
set_option linter.unusedSimpArgs false
open Go Go.RowKit Go.Sort Go.Wide

section
variable {P : Program} {ops : Array Oper} {md : Region.Mode} {w : World} {n m : Nat} {V : Nat → Value} {O : Nat → Obj} {T : Nat → Bool} {Q : Exit → Act → World → Prop}

def Bdd (U : Nat → Prop) (W : World) : Prop := ∀ x, U x → x < W.heap.size

/-- One operation: quiet (below n), laying a block or handing a value on (below m), or any. -/
def Dop (P : Program) (ops : Array Oper) (w : World) (n m : Nat) (V : Nat → Value) (O : Nat → Obj) (T : Nat → Bool) (Q : Exit → Act → World → Prop) (i : Nat) (K : (Nat → Prop) → Act → World → Prop) (U : Nat → Prop) (a : Act) (W : World) : Prop :=
  ∃ o, ops[i]? = some o ∧
    if i < n then Below w.heap.size w W ∧ Bdd U W ∧ Wide.Yields P ops w o a (V i) ∧ ∀ W', Below W.heap.size W W' → K U (a.put o.dst (V i)) W'
    else if T i = true then ∃ v, Go.Yields P ops o v a ∧ K U (a.put o.dst v) W
    else if i < m then Below w.heap.size w W ∧ Bdd U W ∧ Lays P ops o (O i) ∧ ∀ b W', ¬ U b → w.heap.size ≤ b → Below W.heap.size W W' → W'.heap[b]? = some (O i) → K (fun x => x = b ∨ U x) (a.put o.dst (.pointer (some ⟨b, 0, none⟩))) W'
    else wpOp P ops Q i (K U) a W

theorem Dop.mono {i : Nat} {K K' : (Nat → Prop) → Act → World → Prop} {U : Nat → Prop} {a : Act} {W : World} (h : ∀ U' a' W', K U' a' W' → K' U' a' W') (hd : Dop P ops w n m V O T Q i K U a W) : Dop P ops w n m V O T Q i K' U a W := by
  obtain ⟨o, ho, hd⟩ := hd
  refine ⟨o, ho, ?_⟩
  by_cases hi : i < n
  · rw [if_pos hi] at hd ⊢
    exact ⟨hd.1, hd.2.1, hd.2.2.1, fun W' hW' => h _ _ _ (hd.2.2.2 W' hW')⟩
  · rw [if_neg hi] at hd ⊢
    by_cases ht : T i = true
    · rw [if_pos ht] at hd ⊢
      obtain ⟨v, hv, hd⟩ := hd
      exact ⟨v, hv, h _ _ _ hd⟩
    · rw [if_neg ht] at hd ⊢
      by_cases hm : i < m
      · rw [if_pos hm] at hd ⊢
        exact ⟨hd.1, hd.2.1, hd.2.2.1, fun b W' hb hB hW' hx => h _ _ _ (hd.2.2.2 b W' hb hB hW' hx)⟩
      rw [if_neg hm] at hd ⊢
      exact wpOp_mono (fun a w hk => h _ _ _ hk) hd

def lateB (n : Nat) (T : Nat → Bool) (i : Nat) : Bool := decide (n ≤ i) && T i
def compatB (n m : Nat) (T : Nat → Bool) (i j : Nat) : Bool := lateB n T i || (decide (i < m) && (decide (j < m) || lateB n T j))

theorem bdd_grown {U : Nat → Prop} {W W' : World} (h : Bdd U W) (hW : Below W.heap.size W W') : Bdd U W' := fun x hx => Nat.lt_of_lt_of_le (h x hx) hW.size
theorem bdd_laid {U : Nat → Prop} {W W' : World} {b : Nat} {x : Obj} (h : Bdd U W) (hW : Below W.heap.size W W') (hx : W'.heap[b]? = some x) : Bdd (fun x => x = b ∨ U x) W' := fun y hy => by
  rcases hy with rfl | hy
  · rcases Nat.lt_or_ge y W'.heap.size with hlt | hge
    · exact hlt
    · simp [Array.getElem?_eq_none hge] at hx
  · exact bdd_grown h hW y hy

theorem put_yields {oi oj : Oper} {a : Act} {v u : Value} (h1 : ∀ d, oi.dst = some d → d ∉ oj.looksAt ops) (hsj : ∀ cs b, oj.op ≠ .select cs b) : Go.Yields P ops oj v (a.put oi.dst u) ↔ Go.Yields P ops oj v a := by
  unfold Go.Yields
  rw [wanted_put oj a oi.dst u h1, execOp_put oj hsj a oi.dst u h1]
theorem put_steady {oi oj : Oper} {a : Act} {v u : Value} (h1 : ∀ d, oi.dst = some d → d ∉ oj.looksAt ops) (hsj : ∀ cs b, oj.op ≠ .select cs b) : Wide.Yields P ops w oj (a.put oi.dst u) v ↔ Wide.Yields P ops w oj a v := by
  unfold Wide.Yields Steady Oper.quietAt
  rw [wanted_put oj a oi.dst u h1, execOp_put oj hsj a oi.dst u h1]

/-- Two operations that are apart change places. -/
theorem Dop.swap {i j : Nat} {oi oj : Oper} (hi : ops[i]? = some oi) (hj : ops[j]? = some oj) (hap : oi.apart ops oj = true) (hco : compatB n m T i j = true) (hsi : ∀ cs b, oi.op ≠ .select cs b) (hsj : ∀ cs b, oj.op ≠ .select cs b) (hQ : ∀ c a d v w, Q (.panic c) (a.put d v) w → Q (.panic c) a w)
    {K : (Nat → Prop) → Act → World → Prop} {U : Nat → Prop} {a : Act} {W : World} (h : Dop P ops w n m V O T Q i (fun U a W => Dop P ops w n m V O T Q j K U a W) U a W) : Dop P ops w n m V O T Q j (fun U a W => Dop P ops w n m V O T Q i K U a W) U a W := by
  obtain ⟨h1, h2, h3⟩ := Oper.apart_spec hap
  obtain ⟨o, ho, h⟩ := h
  obtain rfl : oi = o := Option.some.inj (hi.symm.trans ho)
  have SJ : ∀ u v, Wide.Yields P ops w oj (a.put oi.dst u) v ↔ Wide.Yields P ops w oj a v := fun u v => put_steady h1 hsj
  have SI : ∀ u v, Wide.Yields P ops w oi (a.put oj.dst u) v ↔ Wide.Yields P ops w oi a v := fun u v => put_steady h3 hsi
  have LJ : ∀ u v, Go.Yields P ops oj v (a.put oi.dst u) ↔ Go.Yields P ops oj v a := fun u v => put_yields h1 hsj
  have LI : ∀ u v, Go.Yields P ops oi v (a.put oj.dst u) ↔ Go.Yields P ops oi v a := fun u v => put_yields h3 hsi
  have comm : ∀ u v, (a.put oj.dst u).put oi.dst v = (a.put oi.dst v).put oj.dst u := fun u v => (Act.put_comm a v u h2).symm
  refine ⟨oj, hj, ?_⟩
  have det : ∀ (o : Oper) (a : Act) (v u : Value), Go.Yields P ops o v a → Go.Yields P ops o u a → v = u := by
    intro o a v u h1 h2
    rcases h1 with ⟨w1, r1⟩ | ⟨w1, r1⟩ <;> rcases h2 with ⟨w2, r2⟩ | ⟨w2, r2⟩
    · have := (r1 w).symm.trans (r2 w)
      simpa using this
    · rw [w1] at w2; cases w2
    · rw [w1] at w2; cases w2
    · rw [r1, r2]
  by_cases hin : i < n
  · rw [if_pos hin] at h
    obtain ⟨hW, hU, hy, h⟩ := h
    have hjm : j < m ∨ (n ≤ j ∧ T j = true) := by
      simp only [compatB, lateB, Bool.or_eq_true, Bool.and_eq_true, decide_eq_true_eq] at hco
      rcases hco with h | h
      · omega
      · exact h.2
    have hx : ∃ T : Nat, ∀ x, U x → x < T := ⟨W.heap.size, hU⟩
    by_cases hjn : j < n
    · rw [if_pos hjn]
      obtain ⟨o, ho, g⟩ := h W (Below.refl _ _)
      obtain rfl : oj = o := Option.some.inj (hj.symm.trans ho)
      rw [if_pos hjn] at g
      refine ⟨hW, hU, (SJ _ _).1 g.2.2.1, fun W' hW' => ⟨oi, hi, ?_⟩⟩
      rw [if_pos hin]
      refine ⟨hW.trans (hW'.mono hW.size), bdd_grown hU hW', (SI _ _).2 hy, fun W'' hW'' => ?_⟩
      rw [comm]
      exact g.2.2.2 W'' (hW'.trans (hW''.mono hW'.size))
    · rw [if_neg hjn]
      obtain ⟨o, ho, g⟩ := h W (Below.refl _ _)
      obtain rfl : oj = o := Option.some.inj (hj.symm.trans ho)
      rw [if_neg hjn] at g
      by_cases ht : T j = true
      · rw [if_pos ht] at g ⊢
        obtain ⟨v, hv, _⟩ := g
        refine ⟨v, (LJ _ _).1 hv, oi, hi, ?_⟩
        rw [if_pos hin]
        refine ⟨hW, hU, (SI _ _).2 hy, fun W' hW' => ?_⟩
        obtain ⟨o, ho, g⟩ := h W' hW'
        obtain rfl : oj = o := Option.some.inj (hj.symm.trans ho)
        rw [if_neg hjn, if_pos ht] at g
        obtain ⟨v', hv', g⟩ := g
        obtain rfl := det _ _ _ _ hv hv'
        rw [comm]
        exact g
      · have hjm : j < m := by
          rcases hjm with h | h
          · exact h
          · exact absurd h.2 ht
        rw [if_neg ht, if_pos hjm] at g ⊢
        refine ⟨hW, hU, g.2.2.1, fun b W' hb hB hW' hx' => ⟨oi, hi, ?_⟩⟩
        rw [if_pos hin]
        refine ⟨hW.trans (hW'.mono hW.size), bdd_laid hU hW' hx', (SI _ _).2 hy, fun W'' hW'' => ?_⟩
        rw [comm]
        have hlt : b < W'.heap.size := bdd_laid hU hW' hx' b (.inl rfl)
        exact g.2.2.2 b W'' hb hB (hW'.trans (hW''.mono hW'.size)) ((hW''.block b hlt).trans hx')
  · rw [if_neg hin] at h
    by_cases hti : T i = true
    · rw [if_pos hti] at h
      obtain ⟨v, hy, o, ho, h⟩ := h
      obtain rfl : oj = o := Option.some.inj (hj.symm.trans ho)
      have fin : ∀ U a' W', Go.Yields P ops oi v a' → K U (a'.put oi.dst v) W' → Dop P ops w n m V O T Q i K U a' W' := fun U a' W' y k => ⟨oi, hi, by rw [if_neg hin, if_pos hti]; exact ⟨v, y, k⟩⟩
      by_cases hjn : j < n
      · rw [if_pos hjn] at h ⊢
        exact ⟨h.1, h.2.1, (SJ _ _).1 h.2.2.1, fun W' hW' => fin _ _ _ ((LI _ _).2 hy) (by rw [comm]; exact h.2.2.2 W' hW')⟩
      · rw [if_neg hjn] at h ⊢
        by_cases htj : T j = true
        · rw [if_pos htj] at h ⊢
          obtain ⟨u, hu, h⟩ := h
          exact ⟨u, (LJ _ _).1 hu, fin _ _ _ ((LI _ _).2 hy) (by rw [comm]; exact h)⟩
        · rw [if_neg htj] at h ⊢
          by_cases hjm : j < m
          · rw [if_pos hjm] at h ⊢
            exact ⟨h.1, h.2.1, h.2.2.1, fun b W' hb hB hW' hx => fin _ _ _ ((LI _ _).2 hy) (by rw [comm]; exact h.2.2.2 b W' hb hB hW' hx)⟩
          · rw [if_neg hjm] at h ⊢
            have := wpOp_put hj hap hsi hsj (fun c a w => hQ c a _ _ w) hy h
            exact wpOp_mono (fun a' w' hk => fin _ _ _ hk.1 hk.2) this
    · rw [if_neg hti] at h
      have hco' : i < m ∧ (j < m ∨ (n ≤ j ∧ T j = true)) := by
        simp only [compatB, lateB, Bool.or_eq_true, Bool.and_eq_true, decide_eq_true_eq] at hco
        rcases hco with h | h
        · exact absurd h.2 hti
        · exact h
      obtain ⟨him, hjm⟩ := hco'
      rw [if_pos him] at h
      obtain ⟨hW, hU, hl, h⟩ := h
      have hx : ∃ T : Nat, ∀ x, U x → x < T := ⟨W.heap.size, hU⟩
      obtain ⟨b0, W0, hb0, hB0, hW0, hx0⟩ := fresh (x := O i) hW hx
      have fin : ∀ U a' W', Below w.heap.size w W' → Bdd U W' → (∀ b W'', ¬ U b → w.heap.size ≤ b → Below W'.heap.size W' W'' → W''.heap[b]? = some (O i) → K (fun x => x = b ∨ U x) (a'.put oi.dst (.pointer (some ⟨b, 0, none⟩))) W'') → Dop P ops w n m V O T Q i K U a' W' := fun U a' W' y u k => ⟨oi, hi, by rw [if_neg hin, if_neg hti, if_pos him]; exact ⟨y, u, hl, k⟩⟩
      obtain ⟨o, ho, g0⟩ := h b0 W0 hb0 hB0 hW0 hx0
      obtain rfl : oj = o := Option.some.inj (hj.symm.trans ho)
      by_cases hjn : j < n
      · rw [if_pos hjn] at g0 ⊢
        refine ⟨hW, hU, (SJ _ _).1 g0.2.2.1, fun W' hW' => fin _ _ _ (hW.trans (hW'.mono hW.size)) (bdd_grown hU hW') fun b W'' hb hB hW'' hx'' => ?_⟩
        obtain ⟨o, ho, g⟩ := h b W'' hb hB (hW'.trans (hW''.mono hW'.size)) hx''
        obtain rfl : oj = o := Option.some.inj (hj.symm.trans ho)
        rw [if_pos hjn] at g
        rw [comm]
        exact g.2.2.2 W'' (Below.refl _ _)
      · rw [if_neg hjn] at g0 ⊢
        by_cases htj : T j = true
        · rw [if_pos htj] at g0 ⊢
          obtain ⟨v, hv, _⟩ := g0
          refine ⟨v, (LJ _ _).1 hv, fin _ _ _ hW hU fun b W'' hb hB hW'' hx'' => ?_⟩
          obtain ⟨o, ho, g⟩ := h b W'' hb hB hW'' hx''
          obtain rfl : oj = o := Option.some.inj (hj.symm.trans ho)
          rw [if_neg hjn, if_pos htj] at g
          obtain ⟨v', hv', g⟩ := g
          obtain rfl := det _ _ _ _ ((LJ _ _).1 hv) ((LJ _ _).1 hv')
          rw [comm]
          exact g
        · have hjm : j < m := by
            rcases hjm with h | h
            · exact h
            · exact absurd h.2 htj
          rw [if_neg htj, if_pos hjm] at g0 ⊢
          refine ⟨hW, hU, g0.2.2.1, fun bj Wj hbj hBj hWj hxj => fin _ _ _ (hW.trans (hWj.mono hW.size)) (bdd_laid hU hWj hxj) fun bi Wi hbi hBi hWi hxi => ?_⟩
          have hne : ¬ U bi := fun hmem => hbi (.inr hmem)
          have hneq : bj ≠ bi := fun e => hbi (.inl e.symm)
          obtain ⟨o, ho, g⟩ := h bi Wi hne hBi (hWj.trans (hWi.mono hWj.size)) hxi
          obtain rfl : oj = o := Option.some.inj (hj.symm.trans ho)
          rw [if_neg hjn, if_neg htj, if_pos hjm] at g
          rw [comm]
          have hlt : bj < Wj.heap.size := bdd_laid hU hWj hxj bj (.inl rfl)
          have hg := g.2.2.2 bj Wi (fun h => h.elim (fun e => hneq e) hbj) hBj (Below.refl _ _) ((hWi.block bj hlt).trans hxj)
          have e : (fun x => x = bj ∨ x = bi ∨ U x) = (fun x => x = bi ∨ x = bj ∨ U x) := by funext x; exact propext or_left_comm
          rw [e] at hg
          exact hg

/-- Whatever is picked. -/
def Heads (P : Program) (md : Region.Mode) (ops : Array Oper) (w : World) (n m : Nat) (V : Nat → Value) (O : Nat → Obj) (T : Nat → Bool) (Q : Exit → Act → World → Prop) (f : Nat) : Array Bool → (Nat → Prop) → Act → World → Prop :=
  Nat.rec (fun ls U a W => Region.ready md ops ls = [] ∧ Q .normal a W) (fun _ next ls U a W => Region.ready md ops ls ≠ [] ∧ ∀ i, i ∈ Region.ready md ops ls → Dop P ops w n m V O T Q i (next (ls.setIfInBounds i true)) U a W) f

theorem heads_any (f : Nat) : ∀ (ls : Array Bool) (U : Nat → Prop) (a : Act) (W : World), Heads P md ops w n m V O T Q f ls U a W → wpAny P md ops Q f ls a W := by
  induction f with
  | zero => intro ls U a W h; exact h
  | succ f ih =>
    intro ls U a W h
    refine ⟨fun no => absurd no h.1, fun i hi => ?_⟩
    obtain ⟨o, ho, hd⟩ := h.2 i hi
    unfold wpOp
    simp only [ho]
    by_cases hin : i < n
    · rw [if_pos hin] at hd
      obtain ⟨hW, hU, hy, hd⟩ := hd
      rcases hy with ⟨hw, hs⟩ | ⟨hw, hv⟩
      · rw [if_pos hw]
        refine .inl (Oper.wp_of_quiet (C := fun W' => Below W.heap.size W W') (K := fun a' => ∀ W', Below W.heap.size W W' → Heads P md ops w n m V O T Q f (ls.setIfInBounds i true) U a' W') (Below.refl _ _) (fun a' W' hW' hK => ih _ _ _ _ (hK W' hW')) ⟨V i, fun W' hW' => ?_, hd⟩)
        have := hs W' (hW.trans (hW'.mono hW.size))
        unfold Oper.quietAt at this ⊢
        generalize (execOp a.eval o).run P W' = r at this ⊢
        cases r with
        | ok nx w' =>
          cases nx <;> simp only [Oper.quietUpon] at this ⊢
          case value u => exact this
          case skip => exact this
          case enter f args => exact ⟨this.1, this.2.mono fun _ _ ⟨he, hb⟩ => ⟨he, hW'.trans (hb.mono hW'.size)⟩⟩
        | halt x w' => simp only [Oper.quietUpon] at this
      · rw [if_neg (by rw [hw]; exact Bool.false_ne_true), ← hv]
        exact ih _ _ _ _ (hd W (Below.refl _ _))
    · rw [if_neg hin] at hd
      by_cases ht : T i = true
      · rw [if_pos ht] at hd
        obtain ⟨v, hv, hd⟩ := hd
        have := hv.wpOp ho (Q := Q) (K := wpAny P md ops Q f (ls.setIfInBounds i true)) (ih _ _ _ _ hd)
        unfold wpOp at this
        simpa only [ho] using this
      · rw [if_neg ht] at hd
        by_cases him : i < m
        · rw [if_pos him] at hd
          obtain ⟨hW, hU, hl, hd⟩ := hd
          obtain ⟨hw, hr⟩ := hl a W
          rw [if_pos hw]
          refine .inl ?_
          unfold Oper.wp
          rw [hr]
          have hb : Below W.heap.size W (W.alloc (O i)) := (Below.refl _ _).alloc (Nat.le_refl _) _
          exact ih _ _ _ _ (hd W.heap.size (W.alloc (O i)) (fun h => by have := hU _ h; omega) hW.size hb (by show (W.heap.push (O i))[W.heap.size]? = _; simp))
        · rw [if_neg him] at hd
          have := wpOp_mono (fun a' w' hk => ih _ _ _ _ hk) hd
          unfold wpOp at this
          simpa only [ho] using this

/-- At most f have not come up. -/
def Left (f : Nat) (ls : Array Bool) : Prop := ∃ l : List Nat, l.length = f ∧ ∀ j, ls.getD j true = false → j ∈ l

theorem Left.set {f i : Nat} {ls : Array Bool} (h : Left (f + 1) ls) (hi : ls.getD i true = false) : Left f (ls.setIfInBounds i true) := by
  obtain ⟨l, hl, hm⟩ := h
  refine ⟨l.erase i, by rw [List.length_erase_of_mem (hm i hi), hl]; rfl, fun j hj => ?_⟩
  rcases Nat.decEq i j with hij | hij
  · rw [getD_set_ne true hij] at hj
    exact (List.mem_erase_of_ne (fun h => hij h.symm)).2 (hm j hj)
  · subst hij
    exfalso
    by_cases hs : i < ls.size
    · simp [hs] at hj
    · simp [hs] at hj

/-- What has come up has come up behind what it waits for. -/
def Closed (md : Region.Mode) (ops : Array Oper) (ls : Array Bool) : Prop := ∀ j oj, ops[j]? = some oj → ls.getD j false = true → ∀ e ∈ oj.after, Region.binds md e = true → ls.getD e.on false = true
theorem Closed.set {ls : Array Bool} {i : Nat} (h : Closed md ops ls) (hi : i ∈ Region.ready md ops ls) : Closed md ops (ls.setIfInBounds i true) := by
  obtain ⟨_, oi, hoi, hall⟩ := mem_ready.1 hi
  intro j oj hj hl e he hb
  by_cases hij : i = j
  · subst hij
    obtain rfl : oj = oi := Option.some.inj (hj.symm.trans hoi)
    exact getD_set_true (hall e he hb)
  · rw [getD_set_ne false hij] at hl
    exact getD_set_true (h j oj hj hl e he hb)

/-- Those that wait for i, through others too. -/
def reachL (md : Region.Mode) (ops : Array Oper) (i : Nat) : Nat → List Nat
  | 0 => []
  | k + 1 => match ops[k]? with
    | some o => if o.after.any (fun e => Region.binds md e && (e.on == i || (reachL md ops i k).contains e.on)) then k :: reachL md ops i k else reachL md ops i k
    | none => reachL md ops i k

theorem reach_up {ls : Array Bool} {i : Nat} (hc : Closed md ops ls) (hu : ls.getD i true = false) (N : Nat) : ∀ j, j ∈ reachL md ops i N → ls.getD j false = true ∨ j ∈ Region.ready md ops ls → False := by
  have hu' := getD_both hu
  induction N with
  | zero => intro j hj; cases hj
  | succ N ih =>
    intro j hj hl
    unfold reachL at hj
    split at hj
    · rename_i o ho
      split at hj
      · rename_i hany
        rcases List.mem_cons.1 hj with rfl | hj
        · obtain ⟨e, he, hb⟩ := Array.any_eq_true'.1 hany
          simp only [Bool.and_eq_true, Bool.or_eq_true, beq_iff_eq] at hb
          have hon : ls.getD e.on false = true := by
            rcases hl with hl | hl
            · exact hc j o ho hl e he hb.1
            · obtain ⟨_, o', ho', hall⟩ := mem_ready.1 hl
              obtain rfl : o' = o := Option.some.inj (ho'.symm.trans ho)
              exact hall e he hb.1
          rcases hb.2 with h | h
          · rw [h, hu'] at hon; cases hon
          · exact ih e.on (by simpa using h) (.inl hon)
        · exact ih j hj hl
      · exact ih j hj hl
    · exact ih j hj hl

theorem heads_first {i : Nat} {oi : Oper} (hi : ops[i]? = some oi) (hsel : ∀ (j : Nat) (o : Oper) cs b, ops[j]? = some o → o.op ≠ .select cs b) (hQ : ∀ c a d v w, Q (.panic c) (a.put d v) w → Q (.panic c) a w) (f : Nat) :
    ∀ (ls : Array Bool) (U : Nat → Prop) (a : Act) (W : World), Left (f + 1) ls → Closed md ops ls →
      (∀ j oj, ops[j]? = some oj → j ≠ i → ls.getD j true = false → (∀ e ∈ oj.after, Region.binds md e = true → e.on ≠ i) → oi.apart ops oj = true ∧ (compatB n m T i j = true ∨ j ∈ reachL md ops i ops.size)) →
      i ∈ Region.ready md ops ls → Dop P ops w n m V O T Q i (Heads P md ops w n m V O T Q f (ls.setIfInBounds i true)) U a W → Heads P md ops w n m V O T Q (f + 1) ls U a W := by
  induction f with
  | zero =>
    intro ls U a W hL _ _ hr H
    refine ⟨fun no => (by rw [no] at hr; cases hr), fun j hj => ?_⟩
    obtain ⟨l, hl, hm⟩ := hL
    have h1 := hm i (mem_ready.1 hr).1
    have h2 := hm j (mem_ready.1 hj).1
    obtain ⟨x, rfl⟩ : ∃ x, l = [x] := by
      match l, hl with
      | [x], _ => exact ⟨x, rfl⟩
    simp only [List.mem_singleton] at h1 h2
    subst h1; subst h2
    exact H
  | succ f ih =>
    intro ls U a W hL hcl hfree hr H
    have hun := (mem_ready.1 hr).1
    refine ⟨fun no => (by rw [no] at hr; cases hr), fun j hj => ?_⟩
    by_cases hji : j = i
    · subst hji; exact H
    · obtain ⟨hjun, oj, hoj, hall⟩ := mem_ready.1 hj
      have notOn : ∀ e ∈ oj.after, Region.binds md e = true → e.on ≠ i := by
        intro e he hb heq
        have h1 := hall e he hb
        rw [heq, getD_both hun] at h1
        cases h1
      obtain ⟨hap, hco⟩ := hfree j oj hoj hji hjun notOn
      have hco : compatB n m T i j = true := hco.resolve_right fun h => reach_up hcl hun _ j h (.inr hj)
      have H' : Dop P ops w n m V O T Q i (fun U' a' W' => Dop P ops w n m V O T Q j (Heads P md ops w n m V O T Q f ((ls.setIfInBounds i true).setIfInBounds j true)) U' a' W') U a W :=
        Dop.mono (fun U' a' W' h => h.2 j (ready_mono hj hji)) H
      have sw := Dop.swap hi hoj hap hco (fun cs b => hsel i oi cs b hi) (fun cs b => hsel j oj cs b hoj) hQ H'
      refine Dop.mono (fun U' a' W' hd => ?_) sw
      rw [Array.setIfInBounds_comm _ _ (Ne.symm hji)] at hd
      refine ih (ls.setIfInBounds j true) U' a' W' (hL.set hjun) (hcl.set hj) ?_ (ready_mono hr (Ne.symm hji)) hd
      intro k ok hk hki hku hno
      refine hfree k ok hk hki ?_ hno
      rcases Nat.decEq j k with hjk | hjk
      · rwa [getD_set_ne true hjk] at hku
      · subst hjk; exact hjun

/-- The operations in the order of the text. -/
def Chain (P : Program) (ops : Array Oper) (w : World) (n m : Nat) (V : Nat → Value) (O : Nat → Obj) (T : Nat → Bool) (Q : Exit → Act → World → Prop) (r : Nat) : Nat → (Nat → Prop) → Act → World → Prop :=
  Nat.rec (fun _ U a W => Q .normal a W) (fun _ next k U a W => Dop P ops w n m V O T Q k (next (k + 1)) U a W) r

def freeB (md : Region.Mode) (ops : Array Oper) (n m : Nat) (T : Nat → Bool) (ls : Array Bool) (i : Nat) : Bool :=
  (List.range ops.size).all fun j => j == i || ls.getD j true || (reachL md ops i ops.size).contains j || compatB n m T i j
def sortB (md : Region.Mode) (ops : Array Oper) (n m : Nat) (T : Nat → Bool) : Nat → Nat → Array Bool → Bool
  | 0, _, ls => (Region.ready md ops ls).isEmpty
  | f + 1, k, ls => (Region.ready md ops ls).contains k && Region.free md ops ls k && freeB md ops n m T ls k && sortB md ops n m T f (k + 1) (ls.setIfInBounds k true)

theorem heads_chain (hsel : Region.noSelect ops = true) (hQ : ∀ c a d v w, Q (.panic c) (a.put d v) w → Q (.panic c) a w) (r : Nat) :
    ∀ (k : Nat) (ls : Array Bool) (U : Nat → Prop) (a : Act) (W : World), k + r = ops.size → Left r ls → Closed md ops ls → sortB md ops n m T r k ls = true → Chain P ops w n m V O T Q r k U a W → Heads P md ops w n m V O T Q r ls U a W := by
  induction r with
  | zero =>
    intro k ls U a W hk _ _ hB h
    exact ⟨by simpa [sortB] using hB, h⟩
  | succ r ih =>
    intro k ls U a W hk hL hcl hB h
    simp only [sortB, Bool.and_eq_true] at hB
    obtain ⟨⟨⟨hr, hf⟩, hc⟩, hB⟩ := hB
    have hr' : k ∈ Region.ready md ops ls := by simpa using hr
    have hlt : k < ops.size := by omega
    have h0 : ops[k]? = some ops[k] := Array.getElem?_eq_getElem hlt
    refine heads_first h0 (Region.noSelect_spec hsel) hQ r ls U a W hL hcl (fun j oj hj hji hju hno => ⟨Region.free_spec h0 hf j oj hj hji hju hno, ?_⟩) hr' ?_
    · have := List.all_eq_true.1 hc j (List.mem_range.2 (Array.getElem?_eq_some_iff.1 hj).1)
      simp only [Bool.or_eq_true, beq_iff_eq] at this
      rcases this with ((h | h) | h) | h
      · exact absurd h hji
      · rw [hju] at h; cases h
      · exact .inr (by simpa using h)
      · exact .inl h
    · exact Dop.mono (fun U' a' W' hd => ih (k + 1) _ _ _ _ (by omega) (hL.set (mem_ready.1 hr').1) (hcl.set hr') hB hd) h

/-- What stands behind the middle: c operations, then a value that is handed on, and so on; at last all that is left. -/
def Tails (P : Program) (l : List Oper) (Q : Exit → Act → World → Prop) : List Nat → Nat → Act → World → Prop
  | [], k, a, W => wpList P l.toArray Q (l.drop k) a W
  | c :: S, k, a, W => wpList P l.toArray (Exit.then (fun a' W' => ∃ o v, l.toArray[k + c]? = some o ∧ Go.Yields P l.toArray o v a' ∧ Tails P l Q S (k + c + 1) (a'.put o.dst v) W') Q) ((l.drop k).take c) a W
/-- The places of the values that are handed on. -/
def lates : List Nat → Nat → List Nat
  | [], _ => []
  | c :: S, k => (k + c) :: lates S (k + c + 1)
theorem chain_of_quiet {A : Act} {r : Nat} (hV : ∀ i, i < n → V i = valOf ops A i) (l : List Oper) :
    ∀ (k : Nat) (a : Act) (W : World), (∀ j, j < l.length → l[j]? = ops[k + j]?) → k + l.length = n → Below w.heap.size w W → dstsB a.tmps.size l = true →
    (∀ B, Below w.heap.size w B → wpQuiet P ops (fun W' => ∃ p : Regrown, W' = grow (redrawn B p.d) p.os) (fun a' => a' = A) l a) →
    (∀ W', Below w.heap.size w W' → Chain P ops w n m V O T Q r n (fun _ => False) A W') → Chain P ops w n m V O T Q (l.length + r) k (fun _ => False) a W := by
  induction l with
  | nil =>
    intro k a W hl hk hW _ h ht
    obtain rfl : k = n := by simpa using hk
    have e : a = A := h W hW
    subst e
    simpa using ht W hW
  | cons o l ih =>
    intro k a W hl hk hW hD h ht
    have h0 : ops[k]? = some o := by simpa using (hl 0 (by simp)).symm
    simp only [List.length_cons] at hk
    rw [show (o :: l).length + r = (l.length + r) + 1 by simp only [List.length_cons]; omega]
    simp only [dstsB, Bool.and_eq_true] at hD
    obtain ⟨hd1, hD'⟩ := hD
    cases hdst : o.dst with
    | none => rw [hdst] at hd1; simp at hd1
    | some d =>
      rw [hdst] at hd1
      simp only [Bool.and_eq_true, decide_eq_true_eq, List.all_eq_true, bne_iff_ne, ne_eq] at hd1
      have hval : valOf ops A k = A.tmps.getD d undef := by simp only [valOf, h0, hdst]
      have key : ∀ B, Below w.heap.size w B → (Region.wanted o (yielded ops a.tmps) = true → (∀ W', (∃ p : Regrown, W' = grow (redrawn B p.d) p.os) → o.quietAt P a (fun W' => ∃ p : Regrown, W' = grow (redrawn B p.d) p.os) W' (valOf ops A k)) ∧ wpQuiet P ops (fun W' => ∃ p : Regrown, W' = grow (redrawn B p.d) p.os) (fun a' => a' = A) l (a.put o.dst (valOf ops A k))) ∧
          (Region.wanted o (yielded ops a.tmps) = false → valOf ops A k = undef ∧ wpQuiet P ops (fun W' => ∃ p : Regrown, W' = grow (redrawn B p.d) p.os) (fun a' => a' = A) l (a.put o.dst undef)) := by
        intro B hB
        have hq := h B hB
        unfold wpQuiet at hq
        constructor
        · intro hw
          rw [if_pos hw] at hq
          obtain ⟨v, h1, h2⟩ := hq
          have := quiet_keeps d l _ (fun p hp => hd1.2 p hp) h2
          rw [hdst, put_same _ _ _ hd1.1] at this
          have e : v = valOf ops A k := by rw [hval, this]
          subst e
          exact ⟨h1, h2⟩
        · intro hw
          rw [if_neg (by rw [hw]; exact Bool.false_ne_true)] at hq
          have := quiet_keeps d l _ (fun p hp => hd1.2 p hp) hq
          rw [hdst, put_same _ _ _ hd1.1] at this
          exact ⟨by rw [hval, this], hq⟩
      refine ⟨o, h0, ?_⟩
      rw [if_pos (by omega), hV k (by omega)]
      have next : ∀ B, Below w.heap.size w B → wpQuiet P ops (fun W' => ∃ p : Regrown, W' = grow (redrawn B p.d) p.os) (fun a' => a' = A) l (a.put o.dst (valOf ops A k)) := fun B hB => by
        cases hw : Region.wanted o (yielded ops a.tmps) with
        | true => exact ((key B hB).1 hw).2
        | false =>
          have := (key B hB).2 hw
          rw [this.1]; exact this.2
      refine ⟨hW, fun _ h => h.elim, ?_, fun W' hW' => ih (k + 1) _ _ (fun j hj => by have := hl (j + 1) (by simp; omega); simpa [Nat.add_assoc, Nat.add_comm 1 j] using this) (by omega) (hW.trans (hW'.mono hW.size)) (by rw [put_size]; exact hD') next ht⟩
      cases hw : Region.wanted o (yielded ops a.tmps) with
      | true =>
        refine .inl ⟨hw, fun B hB => ?_⟩
        have h1 := ((key B hB).1 hw).1 B ⟨⟨B.drawn, #[]⟩, by rw [grow_empty]; rfl⟩
        unfold Oper.quietAt at h1 ⊢
        generalize (execOp a.eval o).run P B = res at h1 ⊢
        cases res with
        | ok nx w' =>
          cases nx <;> simp only [Oper.quietUpon] at h1 ⊢
          case value u => exact h1
          case skip => exact h1
          case enter f args => exact ⟨h1.1, h1.2.mono fun _ _ ⟨he, p, hp⟩ => ⟨he, hp ▸ below_regrown B p.d p.os⟩⟩
        | halt x w' => simp only [Oper.quietUpon] at h1
      | false => exact .inr ⟨hw, ((key w (Below.refl _ _)).2 hw).1⟩

/-- What comes in the middle: a block is laid, or a value handed on. -/
abbrev Mid := Obj ⊕ Value

/-- The middle of the region, in the order of the text. -/
def Mids (P : Program) (ops : Array Oper) (w : World) (K : Act → World → Prop) : List Mid → Nat → (Nat → Prop) → Act → World → Prop
  | [], _, _, a, W => K a W
  | .inl x :: l, k, U, a, W => ∃ o, ops[k]? = some o ∧ Lays P ops o x ∧ ∀ b W', ¬ U b → w.heap.size ≤ b → Below W.heap.size W W' → W'.heap[b]? = some x → Mids P ops w K l (k + 1) (fun x => x = b ∨ U x) (a.put o.dst (.pointer (some ⟨b, 0, none⟩))) W'
  | .inr v :: l, k, U, a, W => ∃ o, ops[k]? = some o ∧ Go.Yields P ops o v a ∧ Mids P ops w K l (k + 1) U (a.put o.dst v) W

def midT (l : List Mid) (n : Nat) (S : List Nat) (i : Nat) : Bool := if i < n + l.length then (match l[i - n]? with | some (.inr _) => true | _ => false) else (lates S (n + l.length)).contains i
def midO (l : List Mid) (n : Nat) (i : Nat) : Obj := match l[i - n]? with | some (.inl x) => x | _ => .cells #[] 0

end
end Go.Mid
