/- A region that draws its order, in the order of its text: first operations that read and call; then new blocks are laid and values handed on, in whatever order and at whatever time; then operations that wait for what they need: one walk in the order of the text serves every order that the draw allows.
Conditions: the Bool 'sortB' of the region, by the kernel; each of the first operations yields one value in every world that has grown. -/
import Derived.Test.YtpfhjdmgkckjfaaDoorQRegA
namespace Go.Mid
set_option linter.unusedVariables false
set_option linter.unusedSimpArgs false
open Go Go.RowKit Go.Sort Go.Wide

section
variable {P : Program} {ops : Array Oper} {md : Region.Mode} {w : World} {n m : Nat} {V : Nat → Value} {O : Nat → Obj} {T : Nat → Bool} {Q : Exit → Act → World → Prop}

def Bdd (U : Nat → Prop) (W : World) : Prop := ∀ x, U x → x < W.heap.size

/-- One operation: quiet (below n), laying a block or handing a value on (below m), or any. -/
def Dop (P : Program) (ops : Array Oper) (w : World) (n m : Nat) (V : Nat → Value) (O : Nat → Obj) (T : Nat → Bool) (Q : Exit → Act → World → Prop) (i : Nat) (K : (Nat → Prop) → Act → World → Prop) (U : Nat → Prop) (a : Act) (W : World) : Prop :=
  ∃ o, ops[i]? = some o ∧
    if i < n then Below w.heap.size w W ∧ Bdd U W ∧ Wide.Yields P ops w o a (V i) ∧ ∀ W', Below W.heap.size W W' → K U (a.put o.dst (V i)) W'
    else if T i = true then ∃ v, Go.Yields P ops o v a ∧ K U (a.put o.dst v) W
    else if i < m then Below w.heap.size w W ∧ Bdd U W ∧ Lays P ops o (O i) ∧ ∀ b W', ¬ U b → w.heap.size ≤ b → Below W.heap.size W W' → W'.heap[b]? = some (O i) → K (fun x => x = b ∨ U x) (a.put o.dst (.pointer (some ⟨b, 0, none⟩))) W'
    else wpOp P ops Q i (K U) a W

theorem Dop.mono {i : Nat} {K K' : (Nat → Prop) → Act → World → Prop} {U : Nat → Prop} {a : Act} {W : World} (h : ∀ U' a' W', K U' a' W' → K' U' a' W') (hd : Dop P ops w n m V O T Q i K U a W) : Dop P ops w n m V O T Q i K' U a W := by
  obtain ⟨o, ho, hd⟩ := hd
  refine ⟨o, ho, ?_⟩
  by_cases hi : i < n
  · rw [if_pos hi] at hd ⊢
    exact ⟨hd.1, hd.2.1, hd.2.2.1, fun W' hW' => h _ _ _ (hd.2.2.2 W' hW')⟩
  · rw [if_neg hi] at hd ⊢
    by_cases ht : T i = true
    · rw [if_pos ht] at hd ⊢
      obtain ⟨v, hv, hd⟩ := hd
      exact ⟨v, hv, h _ _ _ hd⟩
    · rw [if_neg ht] at hd ⊢
      by_cases hm : i < m
      · rw [if_pos hm] at hd ⊢
        exact ⟨hd.1, hd.2.1, hd.2.2.1, fun b W' hb hB hW' hx => h _ _ _ (hd.2.2.2 b W' hb hB hW' hx)⟩
      rw [if_neg hm] at hd ⊢
      exact wpOp_mono (fun a w hk => h _ _ _ hk) hd

def lateB (n : Nat) (T : Nat → Bool) (i : Nat) : Bool := decide (n ≤ i) && T i
def compatB (n m : Nat) (T : Nat → Bool) (i j : Nat) : Bool := lateB n T i || (decide (i < m) && (decide (j < m) || lateB n T j))

/-- Whatever is picked. -/
def Heads (P : Program) (md : Region.Mode) (ops : Array Oper) (w : World) (n m : Nat) (V : Nat → Value) (O : Nat → Obj) (T : Nat → Bool) (Q : Exit → Act → World → Prop) (f : Nat) : Array Bool → (Nat → Prop) → Act → World → Prop :=
  Nat.rec (fun ls U a W => Region.ready md ops ls = [] ∧ Q .normal a W) (fun _ next ls U a W => Region.ready md ops ls ≠ [] ∧ ∀ i, i ∈ Region.ready md ops ls → Dop P ops w n m V O T Q i (next (ls.setIfInBounds i true)) U a W) f

/-- At most f have not come up. -/
def Left (f : Nat) (ls : Array Bool) : Prop := ∃ l : List Nat, l.length = f ∧ ∀ j, ls.getD j true = false → j ∈ l

theorem Left.set {f i : Nat} {ls : Array Bool} (h : Left (f + 1) ls) (hi : ls.getD i true = false) : Left f (ls.setIfInBounds i true) := by
  obtain ⟨l, hl, hm⟩ := h
  refine ⟨l.erase i, by rw [List.length_erase_of_mem (hm i hi), hl]; rfl, fun j hj => ?_⟩
  rcases Nat.decEq i j with hij | hij
  · rw [getD_set_ne true hij] at hj
    exact (List.mem_erase_of_ne (fun h => hij h.symm)).2 (hm j hj)
  · subst hij
    exfalso
    by_cases hs : i < ls.size
    · simp [hs] at hj
    · simp [hs] at hj

/-- What has come up has come up behind what it waits for. -/
def Closed (md : Region.Mode) (ops : Array Oper) (ls : Array Bool) : Prop := ∀ j oj, ops[j]? = some oj → ls.getD j false = true → ∀ e ∈ oj.after, Region.binds md e = true → ls.getD e.on false = true
theorem Closed.set {ls : Array Bool} {i : Nat} (h : Closed md ops ls) (hi : i ∈ Region.ready md ops ls) : Closed md ops (ls.setIfInBounds i true) := by
  obtain ⟨_, oi, hoi, hall⟩ := mem_ready.1 hi
  intro j oj hj hl e he hb
  by_cases hij : i = j
  · subst hij
    obtain rfl : oj = oi := Option.some.inj (hj.symm.trans hoi)
    exact getD_set_true (hall e he hb)
  · rw [getD_set_ne false hij] at hl
    exact getD_set_true (h j oj hj hl e he hb)

/-- Those that wait for i, through others too. -/
def reachL (md : Region.Mode) (ops : Array Oper) (i : Nat) : Nat → List Nat
  | 0 => []
  | k + 1 => match ops[k]? with
    | some o => if o.after.any (fun e => Region.binds md e && (e.on == i || (reachL md ops i k).contains e.on)) then k :: reachL md ops i k else reachL md ops i k
    | none => reachL md ops i k

/-- The operations in the order of the text. -/
def Chain (P : Program) (ops : Array Oper) (w : World) (n m : Nat) (V : Nat → Value) (O : Nat → Obj) (T : Nat → Bool) (Q : Exit → Act → World → Prop) (r : Nat) : Nat → (Nat → Prop) → Act → World → Prop :=
  Nat.rec (fun _ U a W => Q .normal a W) (fun _ next k U a W => Dop P ops w n m V O T Q k (next (k + 1)) U a W) r

def freeB (md : Region.Mode) (ops : Array Oper) (n m : Nat) (T : Nat → Bool) (ls : Array Bool) (i : Nat) : Bool :=
  (List.range ops.size).all fun j => j == i || ls.getD j true || (reachL md ops i ops.size).contains j || compatB n m T i j
def sortB (md : Region.Mode) (ops : Array Oper) (n m : Nat) (T : Nat → Bool) : Nat → Nat → Array Bool → Bool
  | 0, _, ls => (Region.ready md ops ls).isEmpty
  | f + 1, k, ls => (Region.ready md ops ls).contains k && Region.free md ops ls k && freeB md ops n m T ls k && sortB md ops n m T f (k + 1) (ls.setIfInBounds k true)

/-- What stands behind the middle: c operations, then a value that is handed on, and so on; at last all that is left. -/
def Tails (P : Program) (l : List Oper) (Q : Exit → Act → World → Prop) : List Nat → Nat → Act → World → Prop
  | [], k, a, W => wpList P l.toArray Q (l.drop k) a W
  | c :: S, k, a, W => wpList P l.toArray (Exit.then (fun a' W' => ∃ o v, l.toArray[k + c]? = some o ∧ Go.Yields P l.toArray o v a' ∧ Tails P l Q S (k + c + 1) (a'.put o.dst v) W') Q) ((l.drop k).take c) a W
/-- The places of the values that are handed on. -/
def lates : List Nat → Nat → List Nat
  | [], _ => []
  | c :: S, k => (k + c) :: lates S (k + c + 1)
/-- What comes in the middle: a block is laid, or a value handed on. -/
abbrev Mid := Obj ⊕ Value

/-- The middle of the region, in the order of the text. -/
def Mids (P : Program) (ops : Array Oper) (w : World) (K : Act → World → Prop) : List Mid → Nat → (Nat → Prop) → Act → World → Prop
  | [], _, _, a, W => K a W
  | .inl x :: l, k, U, a, W => ∃ o, ops[k]? = some o ∧ Lays P ops o x ∧ ∀ b W', ¬ U b → w.heap.size ≤ b → Below W.heap.size W W' → W'.heap[b]? = some x → Mids P ops w K l (k + 1) (fun x => x = b ∨ U x) (a.put o.dst (.pointer (some ⟨b, 0, none⟩))) W'
  | .inr v :: l, k, U, a, W => ∃ o, ops[k]? = some o ∧ Go.Yields P ops o v a ∧ Mids P ops w K l (k + 1) U (a.put o.dst v) W

def midT (l : List Mid) (n : Nat) (S : List Nat) (i : Nat) : Bool := if i < n + l.length then (match l[i - n]? with | some (.inr _) => true | _ => false) else (lates S (n + l.length)).contains i
def midO (l : List Mid) (n : Nat) (i : Nat) : Obj := match l[i - n]? with | some (.inl x) => x | _ => .cells #[] 0

end
end Go.Mid
