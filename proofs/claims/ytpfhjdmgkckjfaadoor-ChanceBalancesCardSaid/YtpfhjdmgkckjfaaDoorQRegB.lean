/- A region that draws its order: its first operations read and call, what they call makes new memory alone; then new blocks are laid (by an alloc, a make, a slice that is built), at whatever time; then operations follow that wait for all of these, one behind the other: one walk in the order of the text serves every order.
Conditions: the Bools of the region, by the kernel; each of the first operations yields one value in every world that has grown. -/
import Derived.StillTail
import Derived.Lib.QuietBelow
import Derived.Test.YtpfhjdmgkckjfaaDoorQRegA
import Derived.OrdersIn
import Derived.TacticsIn
import Derived.RangeFuncCalls
namespace Go.Made
set_option linter.unusedVariables false
set_option linter.unusedSimpArgs false
open Go Go.RowKit Go.Sort

section
variable {P : Program} {ops : Array Oper} {md : Region.Mode} {w : World} {n m : Nat} {V : Nat → Value} {O : Nat → Obj} {G : Nat → Nat → Value}

/-- In every world that has grown out of w the operation yields v. -/
def Steady (P : Program) (w : World) (o : Oper) (a : Act) (v : Value) : Prop := ∀ W, Below w.heap.size w W → o.quietAt P a (fun W' => Below W.heap.size W W') W v
def Yields (P : Program) (ops : Array Oper) (w : World) (o : Oper) (a : Act) (v : Value) : Prop :=
  (Region.wanted o (yielded ops a.tmps) = true ∧ Steady P w o a v) ∨ (Region.wanted o (yielded ops a.tmps) = false ∧ v = undef)
/-- The operation lays a new block. -/
def Lays (P : Program) (ops : Array Oper) (o : Oper) (a : Act) (x : Obj) (g : Nat → Value) : Prop :=
  ∀ W : World, Region.wanted o (yielded ops a.tmps) = true ∧ (execOp a.eval o).run P W = .ok (.value (g W.heap.size)) (W.alloc x)

/-- One operation, in a world that has grown, and grows behind it. 'U': the blocks that the region has laid. -/
def Dop (P : Program) (ops : Array Oper) (w : World) (n : Nat) (V : Nat → Value) (O : Nat → Obj) (G : Nat → Nat → Value) (i : Nat) (K : (Nat → Prop) → Act → World → Prop) (U : Nat → Prop) (a : Act) (W : World) : Prop :=
  ∃ o, ops[i]? = some o ∧
    if i < n then Yields P ops w o a (V i) ∧ ∀ W', Below W.heap.size W W' → K U (a.put o.dst (V i)) W'
    else Lays P ops o a (O i) (G i) ∧ ∀ b W', ¬ U b → w.heap.size ≤ b → Below W.heap.size W W' → W'.heap[b]? = some (O i) → K (fun x => x = b ∨ U x) (a.put o.dst (G i b)) W'

theorem Dop.mono {i : Nat} {K K' : (Nat → Prop) → Act → World → Prop} {U : Nat → Prop} {a : Act} {W : World} (h : ∀ U' a' W', Below W.heap.size W W' → K U' a' W' → K' U' a' W') (hd : Dop P ops w n V O G i K U a W) : Dop P ops w n V O G i K' U a W := by
  obtain ⟨o, ho, hd⟩ := hd
  refine ⟨o, ho, ?_⟩
  by_cases hi : i < n
  · rw [if_pos hi] at hd ⊢
    exact ⟨hd.1, fun W' hW' => h _ _ _ hW' (hd.2 W' hW')⟩
  · rw [if_neg hi] at hd ⊢
    exact ⟨hd.1, fun b W' hb hB hW' hx => h _ _ _ hW' (hd.2 b W' hb hB hW' hx)⟩

theorem Yields.put {o p : Oper} {a : Act} {v u : Value} (hap : p.apart ops o = true) (hsel : ∀ cs b, o.op ≠ .select cs b) : Yields P ops w o (a.put p.dst u) v ↔ Yields P ops w o a v := by
  obtain ⟨h1, h2, h3⟩ := Oper.apart_spec hap
  unfold Yields Steady Oper.quietAt
  rw [wanted_put o a p.dst u h1, execOp_put o hsel a p.dst u h1]

theorem Lays.put {o p : Oper} {a : Act} {u : Value} {x : Obj} {g : Nat → Value} (hap : p.apart ops o = true) (hsel : ∀ cs b, o.op ≠ .select cs b) : Lays P ops o (a.put p.dst u) x g ↔ Lays P ops o a x g := by
  obtain ⟨h1, h2, h3⟩ := Oper.apart_spec hap
  unfold Lays
  rw [wanted_put o a p.dst u h1, execOp_put o hsel a p.dst u h1]

/-- Whatever is picked is one of the first, till f of them have come up; then L. -/
def Heads (P : Program) (md : Region.Mode) (ops : Array Oper) (w : World) (n m : Nat) (V : Nat → Value) (O : Nat → Obj) (G : Nat → Nat → Value) (L : Array Bool → (Nat → Prop) → Act → World → Prop) (f : Nat) : Array Bool → (Nat → Prop) → Act → World → Prop :=
  Nat.rec (fun ls U a W => L ls U a W) (fun _ next ls U a W => Region.ready md ops ls ≠ [] ∧ ∀ i, i ∈ Region.ready md ops ls → i < m ∧ Dop P ops w n V O G i (next (ls.setIfInBounds i true)) U a W) f

def Bounded (U : Nat → Prop) (W : World) : Prop := ∀ x, U x → x < W.heap.size

/-- The operations in the order of the text. -/
def Chain (P : Program) (ops : Array Oper) (w : World) (n : Nat) (V : Nat → Value) (O : Nat → Obj) (G : Nat → Nat → Value) (K : (Nat → Prop) → Act → World → Prop) (r : Nat) : Nat → (Nat → Prop) → Act → World → Prop :=
  Nat.rec (fun _ U a W => K U a W) (fun _ next k U a W => Dop P ops w n V O G k (next (k + 1)) U a W) r

/-- Each of the operations writes a slot of its own. -/
def dstsB (size : Nat) : List Oper → Bool
  | [] => true
  | o :: l => (match o.dst with | some d => decide (d < size) && l.all (fun p => p.dst != some d) | none => false) && dstsB size l

/-- The value that an operation leaves. -/
def valOf (ops : Array Oper) (A : Act) (i : Nat) : Value := match ops[i]? with
  | some o => (match o.dst with | some d => A.tmps.getD d undef | none => undef)
  | none => undef

end

/-! ### What a block that was laid holds -/
end Go.Made

/- The law of a region that draws its order, at the wide fence and within a round of a range over a function: its first operations read and call, what they call makes new memory alone; then operations follow that wait for all of these, one behind the other.
Conditions: the Bools of the region, by the kernel; no operation is a defer; each of the first operations yields one value in every world of the class. -/
namespace Go.TailIn
set_option linter.unusedVariables false
set_option linter.unusedSimpArgs false
open Go Go.RowKit Go.Sort Go.Tail

def noDefer (l : List Oper) : Bool := l.all fun o => match o.op with | .defer _ => false | _ => true
section
variable {P : Program} {md : Region.Mode} {C : World → Prop} {F : Fence} {n : Nat} (hF : ∀ f, F.fn f) (hD : F.depth = none) (hC : ∀ {f : FuncId} {args : Array Value} {w : World} {R : Ending → World → Prop}, Calls P f args w R → CallsIn F (n - 1) P f args w R)
include hF hD hC

end

end Go.TailIn
