/- The iterator over the sites of a torus: what it hands back, and what it hands to a loop's body.
Conditions: those written at each theorem. -/
import Derived.RangeFuncNested
import Derived.RangeFuncBound
import Derived.RangeFuncCalls
import Derived.RangeFuncLeaves
import Derived.Shelf.Abstract
import Derived.Shelf.RegionOpen
import Derived.WalkKit
import Derived.OwnWalkIn
import Derived.TacticsInMore
import Derived.LoopNIn
import Derived.LoopIn
import Derived.Test.YtmmkhkkmgjighaaTorA
namespace Go.Proofs.Ytmmkhkkmgjighaa
set_option linter.unusedVariables false
set_option linter.unusedSimpArgs false
set_option maxRecDepth 1000000
open Go.RowKit Go.Shelf
open Tm
attribute [local go_sem] Oper.semAt_some

theorem places_any (a b c : Int) (w : World) : Calls Try.prog 54 #[.agg #[.int .i64 a, .int .i64 b, .int .i64 c]] w fun e w' => e = .returned (.func (.func 100) #[] #[.pointer (some ⟨w.heap.size, 0, none⟩)]) ∧
    (w'.cell? ⟨w.heap.size, 0, none⟩ = some (.int .i64 a) ∧ w'.cell? ⟨w.heap.size, 1, none⟩ = some (.int .i64 b) ∧ w'.cell? ⟨w.heap.size, 2, none⟩ = some (.int .i64 c)) ∧ w.heap.size < w'.heap.size ∧ Below w.heap.size w w' ∧ w'.heap[w.heap.size]? = some (.cells #[.int .i64 a, .int .i64 b, .int .i64 c] 22 (0, 0)) := by
  go_enter Try.func54, Try.ntmps54
  go_wp2
  go_ret
  exact ⟨rfl, ⟨by simp [go_sem], by simp [go_sem], by simp [go_sem]⟩, by simp, by repeat (first | (with_reducible exact Below.refl _ _) | (with_reducible refine Below.setCell ?_ ?_ _) | (with_reducible refine Below.drew ?_) | (with_reducible refine Below.alloc ?_ ?_ _) | omega | (simp <;> omega)), World.alloc_heap_new w _⟩

/-- a block lies as it lay -/
def KB (B : Nat) (W W' : World) : Prop := W'.heap[B]? = W.heap[B]?
theorem KB.trans {B : Nat} {X Y Z : World} (h : KB B X Y) (k : KB B Y Z) : KB B X Z := Eq.trans k h
theorem KB.below {B m : Nat} {X Y : World} (h : Below m X Y) (hB : B < m) : KB B X Y := h.block B hB
theorem KB.cell {B : Nat} {X Y : World} (h : KB B X Y) (o : Nat) : Y.cell? ⟨B, o, none⟩ = X.cell? ⟨B, o, none⟩ := World.cell?_of_block (w := X) (a := ⟨B, o, none⟩) h
theorem KB.put {B : Nat} (w : World) (hB : B < w.heap.size) (W : World) (l : Nat) (o o' : Obj) (hl : w.heap.size ≤ l) (_ : W.heap[l]? = some o) (_ : o.isCells = false) (_ : o.isWalk = false) : KB B W (W.putObj l o') :=
  World.putObj_heap_other (by omega)

theorem seqJ {β : Type} {J : β → World → Prop} {B : Nat} (hJ : AbidesFrom B J) {s : β} {X Y : World} (h : J s X) (hb : Below X.heap.size X Y) : J s Y :=
  hJ s X Y none h ⟨hb.os, hb.tape, hb.output, hb.size, fun k hk _ => hb.block k hk⟩ (fun r e => by cases e)

set_option maxHeartbeats 2000000 in
theorem places1_in (n : Nat) (hn : 1 ≤ n) (l Bs N : Nat) (a b c : Int) (hz : Sz a b c) (hN : (N : Int) = a * b * c) (J Jx : List (Fin N) → World → Prop)
    (W : World) (hJ : AbidesFrom W.heap.size J) (hBs : Bs < W.heap.size)
    (hY : ∀ pre x W, J pre W → pre.length < N → YieldAt Fence.wide (n - 1) Try.prog l #[.int .i64 ((x : Fin N).val : Int), .agg #[.int .i64 (x.val%a), .int .i64 (x.val/a%b), .int .i64 (x.val/a/b)]] W fun e W' =>
      (e = .returned (.bool true) ∧ J (pre ++ [x]) W' ∧ KB Bs W W') ∨ (e = .returned (.bool false) ∧ Jx (pre ++ [x]) W'))
    (h0c : W.cell? ⟨Bs, 0, none⟩ = some (.int .i64 a)) (h1c : W.cell? ⟨Bs, 1, none⟩ = some (.int .i64 b)) (h2c : W.cell? ⟨Bs, 2, none⟩ = some (.int .i64 c)) (h0 : J [] W) :
    CallsIn Fence.wide n Try.prog 100 #[.func (.yield l) #[] #[], .pointer (some ⟨Bs, 0, none⟩)] W fun e W' => (∃ v, e = .returned v) ∧
      ((∃ ys, List.map Fin.val ys = List.range N ∧ J ys W') ∨ (∃ pre, (∃ k, k ≤ N ∧ List.map Fin.val pre = List.range k) ∧ Jx pre W')) := by
  refine callsIn_of_wp Try.func100 rfl trivial ?_ rfl
  simp only [Try.ntmps100, List.size_toArray, List.length_cons, List.length_nil, Nat.reduceAdd, Nat.reduceSub, Array.replicate_succ, Array.replicate_zero, List.push_toArray, List.append_toArray, List.nil_append, List.cons_append]
  obtain ⟨a1, a4, b1, b4, c1, c4, hmax⟩ := hz
  have cC := fun W : World => count_any a b c W a1 a4 b1 b4 c1 c4
  gi_wp2_with (refine ⟨trivial, ?_⟩; gi_at_call 98; refine (callsIn_wide.2 (cC _)).mono ?_; rintro e w1 ⟨rfl, hw1⟩)
  gi_loopw [6] (fun i wr => ∃ (k : Nat) (pre : List (Fin N)), k ≤ N ∧ i = .int .i64 k ∧ List.map Fin.val pre = List.range k ∧ J pre wr ∧ KB Bs W wr)
    (fun i _ => N - (intOf i).toNat)
  case atStart => exact ⟨0, [], Nat.zero_le _, rfl, rfl, seqJ hJ h0 hw1, KB.below hw1 hBs⟩
  case round =>
    obtain ⟨k, pre, hk, rfl, hp, hJs, hB⟩ := hrel
    have k0 := (hB.cell 0).trans h0c
    have k1 := (hB.cell 1).trans h1c
    have k2 := (hB.cell 2).trans h2c
    clear hw1 cC
    by_cases hlt : k < N
    · have hi : (k : Int) < a * b * c := by omega
      have hlen : pre.length = k := by have := congrArg List.length hp; simpa using this
      have cP := fun W : World => placeOf_any a b c k W ⟨a1, a4, b1, b4, c1, c4, hmax⟩ (by omega) hi
      have hY' := fun W2 (h2 : J pre W2) => hY pre ⟨k, hlt⟩ W2 h2 (by omega)
      clear hY
      gi_wp2_with (refine ⟨trivial, ?_⟩; gi_at_call 68; refine (callsIn_wide.2 (cP _)).mono ?_; rintro e w2 ⟨rfl, hw2⟩; obtain ⟨fn, tmps, assign, body, hy, hR⟩ := hY' w2 (seqJ hJ hJs hw2); dsimp only at hy)
      have hB2 : KB Bs W w2 := hB.trans (KB.below hw2 (World.block_lt_of_cell? wr _ k0))
      refine hR.mono ?_
      rintro e W3 (⟨rfl, hJ3, hk3⟩ | ⟨rfl, hJx3⟩)
      · gi_wp2
        go_roundw
        case rel => exact ⟨k + 1, pre ++ [⟨k, hlt⟩], by omega, by simp, by simp [hp, List.range_succ], hJ3, hB2.trans hk3⟩
        case measure => simp [intOf]; omega
      · gi_wp2
        refine bodyPost_ret (results_none rfl _ _ _) rfl ?_
        exact ⟨⟨_, rfl⟩, .inr ⟨_, ⟨k + 1, by omega, by simp [hp, List.range_succ]⟩, hJx3⟩⟩
    · have hi : ¬ (k : Int) < a * b * c := by omega
      obtain rfl : k = N := by omega
      clear hN
      gi_wp2
      go_end0
      exact ⟨⟨_, rfl⟩, .inl ⟨pre, hp, hJs⟩⟩

/-- The iterator's contract: all sites in their order, or the first of them. -/
theorem places_stops (n : Nat) (hn : 1 ≤ n) (Bs N : Nat) (a b c : Int) (hz : Sz a b c) (hN : (N : Int) = a * b * c) (w : World) (hBs : Bs < w.heap.size)
    (h0 : w.cell? ⟨Bs, 0, none⟩ = some (.int .i64 a)) (h1 : w.cell? ⟨Bs, 1, none⟩ = some (.int .i64 b)) (h2 : w.cell? ⟨Bs, 2, none⟩ = some (.int .i64 c)) :
    SeqStopsK Fence.wide n Try.prog 100 #[.pointer (some ⟨Bs, 0, none⟩)] (fun x : Fin N => #[Value.int .i64 (x.val : Int), .agg #[.int .i64 (x.val%a), .int .i64 (x.val/a%b), .int .i64 (x.val/a/b)]]) (KB Bs) (fun ys => List.map Fin.val ys = List.range N)
      (fun pre => ∃ k, k ≤ N ∧ List.map Fin.val pre = List.range k) N w := fun l J Jx W hW hJ _ hY hJ0 =>
  places1_in n hn l Bs N a b c hz hN J Jx W hJ (Nat.lt_of_lt_of_le hBs hW.size) hY ((hW.cell (p := ⟨Bs, 0, none⟩) hBs).trans h0) ((hW.cell (p := ⟨Bs, 1, none⟩) hBs).trans h1) ((hW.cell (p := ⟨Bs, 2, none⟩) hBs).trans h2) hJ0
end Go.Proofs.Ytmmkhkkmgjighaa
