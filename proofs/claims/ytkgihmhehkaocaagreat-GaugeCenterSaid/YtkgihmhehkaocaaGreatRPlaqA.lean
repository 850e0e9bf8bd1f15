/- The iterator over the sites of a torus: what it hands back, and what it hands to a loop's body.
Conditions: those written at each theorem. -/
import Derived.RangeFuncNested
import Derived.RangeFuncBound
import Derived.RangeFuncCalls
import Derived.RangeFuncLeaves
import Derived.Shelf.Abstract
import Derived.Shelf.RegionOpen
import Derived.WalkKit
import Derived.OwnWalkIn
import Derived.TacticsInMore
import Derived.LoopNIn
import Derived.LoopIn
import Derived.Test.YtkgihmhehkaocaaGreatRTorA
import Derived.Test.YtkgihmhehkaocaaGreatRCopyC
import Derived.Test.YtkgihmhehkaocaaGreatRAlongC
import Derived.Test.YtkgihmhehkaocaaGreatRRegB
import Derived.Test.YtkgihmhehkaocaaGreatRLtA
namespace Go.Proofs.YtkgihmhehkaocaaGreat
set_option linter.unusedVariables false
set_option linter.unusedSimpArgs false
set_option maxRecDepth 1000000
open Go.RowKit Go.Shelf
open Tm
attribute [local go_sem] Oper.semAt_some

theorem places_any (a b c : Int) (w : World) : Calls Tryz.prog 40 #[.agg #[.int .i64 a, .int .i64 b, .int .i64 c]] w fun e w' => e = .returned (.func (.func 74) #[] #[.pointer (some ⟨w.heap.size, 0, none⟩)]) ∧
    (w'.cell? ⟨w.heap.size, 0, none⟩ = some (.int .i64 a) ∧ w'.cell? ⟨w.heap.size, 1, none⟩ = some (.int .i64 b) ∧ w'.cell? ⟨w.heap.size, 2, none⟩ = some (.int .i64 c)) ∧ w.heap.size < w'.heap.size ∧ Below w.heap.size w w' ∧ w'.heap[w.heap.size]? = some (.cells #[.int .i64 a, .int .i64 b, .int .i64 c] 22 (0, 0)) := by
  go_enter Tryz.func40, Tryz.ntmps40
  go_wp2
  go_ret
  exact ⟨rfl, ⟨by simp [go_sem], by simp [go_sem], by simp [go_sem]⟩, by simp, by repeat (first | (with_reducible exact Below.refl _ _) | (with_reducible refine Below.setCell ?_ ?_ _) | (with_reducible refine Below.drew ?_) | (with_reducible refine Below.alloc ?_ ?_ _) | omega | (simp <;> omega)), World.alloc_heap_new w _⟩

/-- a block lies as it lay -/
def KB (B : Nat) (W W' : World) : Prop := W'.heap[B]? = W.heap[B]?
theorem KB.trans {B : Nat} {X Y Z : World} (h : KB B X Y) (k : KB B Y Z) : KB B X Z := Eq.trans k h
theorem KB.below {B m : Nat} {X Y : World} (h : Below m X Y) (hB : B < m) : KB B X Y := h.block B hB
theorem KB.cell {B : Nat} {X Y : World} (h : KB B X Y) (o : Nat) : Y.cell? ⟨B, o, none⟩ = X.cell? ⟨B, o, none⟩ := World.cell?_of_block (w := X) (a := ⟨B, o, none⟩) h
theorem KB.put {B : Nat} (w : World) (hB : B < w.heap.size) (W : World) (l : Nat) (o o' : Obj) (hl : w.heap.size ≤ l) (_ : W.heap[l]? = some o) (_ : o.isCells = false) (_ : o.isWalk = false) : KB B W (W.putObj l o') :=
  World.putObj_heap_other (by omega)

theorem seqJ {β : Type} {J : β → World → Prop} {B : Nat} (hJ : AbidesFrom B J) {s : β} {X Y : World} (h : J s X) (hb : Below X.heap.size X Y) : J s Y :=
  hJ s X Y none h ⟨hb.os, hb.tape, hb.output, hb.size, fun k hk _ => hb.block k hk⟩ (fun r e => by cases e)

set_option maxHeartbeats 2000000 in
theorem places1_in (n : Nat) (hn : 1 ≤ n) (l Bs N : Nat) (a b c : Int) (hz : Sz a b c) (hN : (N : Int) = a * b * c) (J Jx : List (Fin N) → World → Prop)
    (W : World) (hJ : AbidesFrom W.heap.size J) (hBs : Bs < W.heap.size)
    (hY : ∀ pre x W, J pre W → pre.length < N → YieldAt Fence.wide (n - 1) Tryz.prog l #[.int .i64 ((x : Fin N).val : Int), .agg #[.int .i64 (x.val%a), .int .i64 (x.val/a%b), .int .i64 (x.val/a/b)]] W fun e W' =>
      (e = .returned (.bool true) ∧ J (pre ++ [x]) W' ∧ KB Bs W W') ∨ (e = .returned (.bool false) ∧ Jx (pre ++ [x]) W'))
    (h0c : W.cell? ⟨Bs, 0, none⟩ = some (.int .i64 a)) (h1c : W.cell? ⟨Bs, 1, none⟩ = some (.int .i64 b)) (h2c : W.cell? ⟨Bs, 2, none⟩ = some (.int .i64 c)) (h0 : J [] W) :
    CallsIn Fence.wide n Tryz.prog 74 #[.func (.yield l) #[] #[], .pointer (some ⟨Bs, 0, none⟩)] W fun e W' => (∃ v, e = .returned v) ∧
      ((∃ ys, List.map Fin.val ys = List.range N ∧ J ys W') ∨ (∃ pre, (∃ k, k ≤ N ∧ List.map Fin.val pre = List.range k) ∧ Jx pre W')) := by
  refine callsIn_of_wp Tryz.func74 rfl trivial ?_ rfl
  simp only [Tryz.ntmps74, List.size_toArray, List.length_cons, List.length_nil, Nat.reduceAdd, Nat.reduceSub, Array.replicate_succ, Array.replicate_zero, List.push_toArray, List.append_toArray, List.nil_append, List.cons_append]
  obtain ⟨a1, a4, b1, b4, c1, c4, hmax⟩ := hz
  have cC := fun W : World => count_any a b c W a1 a4 b1 b4 c1 c4
  gi_wp2_with (refine ⟨trivial, ?_⟩; gi_at_call 67; refine (callsIn_wide.2 (cC _)).mono ?_; rintro e w1 ⟨rfl, hw1⟩)
  gi_loopw [6] (fun i wr => ∃ (k : Nat) (pre : List (Fin N)), k ≤ N ∧ i = .int .i64 k ∧ List.map Fin.val pre = List.range k ∧ J pre wr ∧ KB Bs W wr)
    (fun i _ => N - (intOf i).toNat)
  case atStart => exact ⟨0, [], Nat.zero_le _, rfl, rfl, seqJ hJ h0 hw1, KB.below hw1 hBs⟩
  case round =>
    obtain ⟨k, pre, hk, rfl, hp, hJs, hB⟩ := hrel
    have k0 := (hB.cell 0).trans h0c
    have k1 := (hB.cell 1).trans h1c
    have k2 := (hB.cell 2).trans h2c
    clear hw1 cC
    by_cases hlt : k < N
    · have hi : (k : Int) < a * b * c := by omega
      have hlen : pre.length = k := by have := congrArg List.length hp; simpa using this
      have cP := fun W : World => placeOf_any a b c k W ⟨a1, a4, b1, b4, c1, c4, hmax⟩ (by omega) hi
      have hY' := fun W2 (h2 : J pre W2) => hY pre ⟨k, hlt⟩ W2 h2 (by omega)
      clear hY
      gi_wp2_with (refine ⟨trivial, ?_⟩; gi_at_call 70; refine (callsIn_wide.2 (cP _)).mono ?_; rintro e w2 ⟨rfl, hw2⟩; obtain ⟨fn, tmps, assign, body, hy, hR⟩ := hY' w2 (seqJ hJ hJs hw2); dsimp only at hy)
      have hB2 : KB Bs W w2 := hB.trans (KB.below hw2 (World.block_lt_of_cell? wr _ k0))
      refine hR.mono ?_
      rintro e W3 (⟨rfl, hJ3, hk3⟩ | ⟨rfl, hJx3⟩)
      · gi_wp2
        go_roundw
        case rel => exact ⟨k + 1, pre ++ [⟨k, hlt⟩], by omega, by simp, by simp [hp, List.range_succ], hJ3, hB2.trans hk3⟩
        case measure => simp [intOf]; omega
      · gi_wp2
        refine bodyPost_ret (results_none rfl _ _ _) rfl ?_
        exact ⟨⟨_, rfl⟩, .inr ⟨_, ⟨k + 1, by omega, by simp [hp, List.range_succ]⟩, hJx3⟩⟩
    · have hi : ¬ (k : Int) < a * b * c := by omega
      obtain rfl : k = N := by omega
      clear hN
      gi_wp2
      go_end0
      exact ⟨⟨_, rfl⟩, .inl ⟨pre, hp, hJs⟩⟩

/-- The iterator's contract: all sites in their order, or the first of them. -/
theorem places_stops (n : Nat) (hn : 1 ≤ n) (Bs N : Nat) (a b c : Int) (hz : Sz a b c) (hN : (N : Int) = a * b * c) (w : World) (hBs : Bs < w.heap.size)
    (h0 : w.cell? ⟨Bs, 0, none⟩ = some (.int .i64 a)) (h1 : w.cell? ⟨Bs, 1, none⟩ = some (.int .i64 b)) (h2 : w.cell? ⟨Bs, 2, none⟩ = some (.int .i64 c)) :
    SeqStopsK Fence.wide n Tryz.prog 74 #[.pointer (some ⟨Bs, 0, none⟩)] (fun x : Fin N => #[Value.int .i64 (x.val : Int), .agg #[.int .i64 (x.val%a), .int .i64 (x.val/a%b), .int .i64 (x.val/a/b)]]) (KB Bs) (fun ys => List.map Fin.val ys = List.range N)
      (fun pre => ∃ k, k ≤ N ∧ List.map Fin.val pre = List.range k) N w := fun l J Jx W hW hJ _ hY hJ0 =>
  places1_in n hn l Bs N a b c hz hN J Jx W hJ (Nat.lt_of_lt_of_le hBs hW.size) hY ((hW.cell (p := ⟨Bs, 0, none⟩) hBs).trans h0) ((hW.cell (p := ⟨Bs, 1, none⟩) hBs).trans h1) ((hW.cell (p := ⟨Bs, 2, none⟩) hBs).trans h2) hJ0
end Go.Proofs.YtkgihmhehkaocaaGreat

/- What a round of the plaquettes' inner loop keeps.
Conditions: those written at each theorem. -/
namespace Go.Proofs.YtkgihmhehkaocaaGreat
set_option linter.unusedVariables false
set_option linter.unusedSimpArgs false
set_option maxRecDepth 1000000
open Go.RowKit Go.Shelf
open Um Tm

theorem row_apart {W : World} {base e size k B : Nat} {t : TypeId} {v : Value} {cs : Array Value} {r : Nat × Nat} {xs : List Value} (h : W.ownsRow base e size v k xs) (hB : W.heap[B]? = some (.cells cs t r)) (ht : t ≠ e) : some B ≠ v.ownBlock := by
  rcases h.2 with ⟨rfl, _⟩ | ⟨g, cap', cur, rfl, _, hgg, _⟩
  · simp [Value.ownBlock]
  · intro e'
    simp [Value.ownBlock] at e'
    subst e'
    rw [hB] at hgg
    simp at hgg
    exact ht hgg.2.1

/-- what lies between two rounds -/
structure PS (w : World) (B5 : Nat) (F : Array Value) (T : Array Value) (W : World) (v : Value) (m : Nat) (cs : List Value) : Prop where
  hv : Boxed W B5 23 v
  row : W.ownsRow w.heap.size 55 5 v m cs
  b1 : Boxed W (w.heap.size + 1) 23 (.slice none 0 0)
  b2 : Boxed W (w.heap.size + 1 + 1) 28 (.int .i64 0)
  f : W.heap[w.heap.size]? = some (.cells F 25 (0, 0))
  p : W.heap[B5 + 1]? = some (.cells T 22 (0, 0))

theorem PS.step {w W w5 w6 : World} {B5 k m cp : Nat} {F T : Array Value} {ao : Option Addr} {cs news : List Value} {v6 : Value} {o1 o2 : Obj} (h : PS w B5 F T W (.slice ao m cp) k cs) (hlt : w.heap.size + 1 + 1 < B5) (hb5 : Below W.heap.size W w5)
    (hg : ((w5.alloc o1).alloc o2).grownBy w6 (Value.slice ao m cp).ownBlock) (hown : w6.ownsRow w.heap.size 55 5 v6 (k + 1) (cs ++ news)) :
    PS w B5 F T (w6.setCell ⟨B5, 0, none⟩ v6) v6 (k + 1) (cs ++ news) ∧ (∀ B, KeepsFrom B W (w6.setCell ⟨B5, 0, none⟩ v6)) ∧ KB (B5 + 1) W (w6.setCell ⟨B5, 0, none⟩ v6) ∧ (Below w.heap.size w W → Below w.heap.size w (w6.setCell ⟨B5, 0, none⟩ v6)) := by
  have s5 := hb5.size
  have l5 := h.hv.lt
  have keep6 : ∀ B, B < W.heap.size → some B ≠ (Value.slice ao m cp).ownBlock → w6.heap[B]? = W.heap[B]? := fun B hB hne =>
    (hg.block B (by simp; omega) hne).trans ((Below.heap_alloc _ o2 B (by simp; omega)).trans ((Below.heap_alloc w5 o1 B (by omega)).trans (hb5.block B hB)))
  have keep : ∀ B, B < W.heap.size → B ≠ B5 → some B ≠ (Value.slice ao m cp).ownBlock → (w6.setCell ⟨B5, 0, none⟩ v6).heap[B]? = W.heap[B]? := fun B hB hn hne =>
    (Below.heap_setCell w6 ⟨B5, 0, none⟩ v6 B hn).trans (keep6 B hB hne)
  have hl : ∀ {B : Nat} {o : Obj}, W.heap[B]? = some o → B < W.heap.size := fun e => (Array.getElem?_eq_some_iff.1 e).1
  have hv6 : Boxed w6 B5 23 (.slice ao m cp) := (keep6 B5 l5 (row_apart h.row h.hv (by decide))).trans h.hv
  have kp := keep (B5 + 1) (hl h.p) (by omega) (row_apart h.row h.p (by decide))
  refine ⟨⟨?_, hown.kept (grownBy_setCell' w6 B5 v6) (.inr (Ne.symm (row_apart hown hv6 (by decide)))), (keep _ h.b1.lt (by omega) (row_apart h.row h.b1 (by decide))).trans h.b1, (keep _ h.b2.lt (by omega) (row_apart h.row h.b2 (by decide))).trans h.b2, (keep _ (hl h.f) (by omega) (row_apart h.row h.f (by decide))).trans h.f, kp.trans h.p⟩, ?_, kp, ?_⟩
  · exact hv6.set v6
  · refine fun B => ⟨?_, fun j o _ hj ho => (keep j (hl hj) (fun e => ?_) (fun e => ?_)).trans hj⟩
    · have := hg.size
      simp [World.setCell] at this ⊢
      omega
    · subst e
      rw [show W.heap[j]? = _ from h.hv] at hj
      cases hj
      cases ho
    · rcases h.row.2 with ⟨e', _⟩ | ⟨g, cap', cur, e', _, hgg, _⟩
      · rw [e'] at e
        cases e
      · rw [e'] at e
        simp [Value.ownBlock] at e
        subst e
        rw [hgg] at hj
        cases hj
        cases ho
  · intro hB
    have b5 : Below w.heap.size w w5 := hB.trans (hb5.mono hB.size)
    have sb := b5.size
    refine Below.setCell (((b5.alloc sb o1).alloc (by simp; omega) o2).grown hg (by simp; omega) (fun j e => ?_)) (p := ⟨B5, 0, none⟩) (by show w.heap.size ≤ B5; omega) v6
    rcases h.row.2 with ⟨e', _⟩ | ⟨g, cap', cur, e', hb', _⟩
    · rw [e'] at e
      cases e
    · rw [e'] at e
      simp [Value.ownBlock] at e
      omega

theorem PS.kept {w W Y : World} {B5 m : Nat} {F T : Array Value} {v : Value} {cs : List Value} {r : Option Nat} (h : PS w B5 F T W v m cs) (hg : W.grownBy Y r) (hr : ∀ q, r = some q → ∃ o : Obj, W.heap[q]? = some o ∧ o.isCells = false) : PS w B5 F T Y v m cs := by
  refine ⟨(grownBy_keeps_cells hg hr h.hv rfl).trans h.hv, h.row.kept hg ?_, (grownBy_keeps_cells hg hr h.b1 rfl).trans h.b1, (grownBy_keeps_cells hg hr h.b2 rfl).trans h.b2, (grownBy_keeps_cells hg hr h.f rfl).trans h.f, (grownBy_keeps_cells hg hr h.p rfl).trans h.p⟩
  rcases h.row.2 with ⟨e', _⟩ | ⟨g, cap', cur, e', _, hgg, _⟩
  · left; rw [e']; rfl
  · right
    intro e
    obtain ⟨o, ho, hc⟩ := hr g (by rw [← e, e']; rfl)
    rw [hgg] at ho
    cases ho
    cases hc
theorem PS.own {α : Type} (w : World) (B5 : Nat) (F T : Array Value) (m : α → Nat) (cs : α → List Value) : Own (fun (s : α) W => ∃ v, PS w B5 F T W v (m s) (cs s)) :=
  fun _ _ _ _ ⟨v, h⟩ hg hr => ⟨v, h.kept hg hr⟩
theorem PS.shape {w W : World} {B5 m : Nat} {F T : Array Value} {v : Value} {cs : List Value} (h : PS w B5 F T W v m cs) : ∃ ao n cp, v = .slice ao n cp := by
  rcases h.row.2 with ⟨rfl, _⟩ | ⟨g, cap, cur, rfl, _⟩
  · exact ⟨_, _, _, rfl⟩
  · exact ⟨_, _, _, rfl⟩
theorem PS.cell {w W : World} {B5 m : Nat} {F T : Array Value} {v u : Value} {cs : List Value} (h : PS w B5 F T W v m cs) (o : Nat) (ho : F[o]? = some u) : W.cell? ⟨w.heap.size, o, none⟩ = some u := by
  simp [World.cell?, h.f, ho]
theorem PS.mark {w W : World} {B5 m : Nat} {F T : Array Value} {v : Value} {cs : List Value} (h : PS w B5 F T W v m cs) : ∀ a n c, v = .slice (some a) n c → a.block < W.heap.size := by
  intro p n c ev
  subst ev
  rcases h.row.2 with ⟨e, _⟩ | ⟨g, cap', cur, e, _, hgg, _⟩
  · cases e
  · cases e
    exact (Array.getElem?_eq_some_iff.1 hgg).1
end Go.Proofs.YtkgihmhehkaocaaGreat

/- The plaquettes of a field, as the program makes them.
Conditions: those written at each theorem. -/
namespace Go.Proofs.YtkgihmhehkaocaaGreat
set_option linter.unusedVariables false
set_option linter.unusedSimpArgs false
set_option maxRecDepth 1000000
open Go.RowKit Go.Shelf
open Um Tm
attribute [local go_sem] Oper.semAt_some

theorem Boxed.below {W W' : World} {m B : Nat} {t : TypeId} {v : Value} (h : Boxed W B t v) (hb : Below m W W') (hB : B < m) : Boxed W' B t v := (hb.block B hB).trans h

theorem ownsRow_below {W W' : World} {m base e size k : Nat} {v : Value} {xs : List Value} (h : W.ownsRow base e size v k xs) (hb : Below m W W') (hv : ∀ a n c, v = .slice (some a) n c → a.block < m) : W'.ownsRow base e size v k xs := by
  refine ⟨h.1, ?_⟩
  rcases h.2 with hn | ⟨g, cap, cur, rfl, hb', hgg, rest⟩
  · exact .inl hn
  · exact .inr ⟨g, cap, cur, rfl, hb', (hb.block g (hv _ _ _ rfl)).trans hgg, rest⟩

theorem lies4 {W : World} {g : Nat} {p q r s : Int} (h0 : W.cell? ⟨g, 0, none⟩ = some (.int .i64 p)) (h1 : W.cell? ⟨g, 1, none⟩ = some (.int .i64 q)) (h2 : W.cell? ⟨g, 2, none⟩ = some (.int .i64 r)) (h3 : W.cell? ⟨g, 3, none⟩ = some (.int .i64 s)) : LiesI W g 0 [p, q, r, s] := by
  intro i x hx
  match i, hx with
  | 0, hx => simp at hx; subst hx; simpa using h0
  | 1, hx => simp at hx; subst hx; simpa using h1
  | 2, hx => simp at hx; subst hx; simpa using h2
  | 3, hx => simp at hx; subst hx; simpa using h3
  | n + 4, hx => simp at hx

/-- the units of all plaquettes, in their order: each site's three -/
def plq (a b c : Int) (L : List Q) (s : Int) : List Q := [al a b c L s [1, 2, -1, -2], al a b c L s [1, 3, -1, -3], al a b c L s [2, 3, -2, -3]]
def plqs (a b c : Int) (L : List Q) (l : List Nat) : List Q := l.flatMap fun (s : Nat) => plq a b c L (s : Int)

set_option maxHeartbeats 3200000 in
theorem plaquettes_ok (a b c : Int) (bl off cap N : Nat) (L : List Q) (w : World) (hl : Lies w bl off L) (hF : Fl a b c L) (hr : fldR a b c L 0) (hz : Sz a b c) (hN : (N : Int) = a * b * c) (hlen : L.length ≤ 1000) :
    CallsIn Fence.wide 100 Tryz.prog 19 #[.agg #[.int .i64 a, .int .i64 b, .int .i64 c, .slice (some ⟨bl, off, none⟩) L.length cap]] w fun e w' => ∃ v, e = .returned (.tuple #[v, .int .i64 0]) ∧ w'.ownsRow w.heap.size 55 5 v (3 * N) ((plqs a b c L (List.range N)).flatMap uc) ∧ Below w.heap.size w w' := by
  have cV := fun (W : World) (h : LiesO W (some ⟨bl, off, none⟩) L) => validateF_any a b c 0 (some ⟨bl, off, none⟩) cap L W h hr (by omega)
  have cP := fun W : World => places_any a b c W
  obtain ⟨i0, hi, hz0, hz1, hz2⟩ := info_parts infoU
  have hlen2 : L.length ≤ maxLen := by unfold maxLen; omega
  have hlen3 : i0.bytes * L.length ≤ 281474976710656 := by rw [hz2]; omega
  refine callsIn_of_wp_marks Tryz.func19 rfl trivial ?_ rfl
  simp only [Tryz.ntmps19, List.size_toArray, List.length_cons, List.length_nil, Nat.reduceAdd, Nat.reduceSub, Array.replicate_succ, Array.replicate_zero, List.push_toArray, List.append_toArray, List.nil_append, List.cons_append]
  gi_wp2_with (first
    | (refine ⟨trivial, ?_⟩; gi_at_call 35; refine (callsIn_wide.2 (cV _ (.inr ⟨bl, off, rfl, hl.later (by repeat (first | (with_reducible exact Below.refl _ _) | (with_reducible refine Below.setCell ?_ ?_ _) | (with_reducible refine Below.drew ?_) | (with_reducible refine Below.alloc ?_ ?_ _) | omega | (simp <;> omega)))⟩))).mono ?_; rintro e w1 ⟨rfl, hw1⟩; have hc1 := Tail.cells hw1; have s1 := hw1.size; simp at s1; have z10 : w.heap.size < w1.heap.size := (by omega))
    | (gi_at_make; refine wpListIn_make_own _ rfl _ _ 23 rfl w.heap.size 55 i0 _ 5 Tryz.underlying23 hi hz0 hz1 _ _ _ L.length rfl rfl rfl hlen3 hlen2 (by omega) ?_; intro w2 hown hgrow; have s2 := hgrow.size; have z20 : w.heap.size < w2.heap.size := (by omega); have kg : ∀ o : Nat, w2.cell? ⟨w.heap.size, o, none⟩ = w1.cell? ⟨w.heap.size, o, none⟩ := fun o => World.cell?_of_block (w := w1) (a := ⟨w.heap.size, o, none⟩) (hgrow.block _ z10 (by simp)))
    | (refine ⟨trivial, ?_⟩; gi_at_call 40; refine (callsIn_wide.2 (cP _)).mono ?_; rintro e w3 ⟨rfl, ⟨q0, q1, q2⟩, hlt3, hw3, hbx⟩; have hc3 := Tail.cells hw3))
  have hB1 : Below w.heap.size w w1 := by repeat (first | (with_reducible exact Below.refl _ _) | (with_reducible refine Below.setCell ?_ ?_ _) | (with_reducible refine Below.drew ?_) | (with_reducible refine Below.alloc ?_ ?_ _) | (with_reducible refine Below.trans ?_ (Below.mono hw1 ?_)) | (with_reducible exact hw1.size) | omega | (simp <;> omega) | (simp <;> (have s := hw1.size; omega)) | (have s0 := hw1.size; (try simp at s0); (try simp); omega))
  have hB2 : Below w.heap.size w w2 := hB1.grown hgrow (by omega) (by simp)
  have hlt3' := hlt3
  rw [World.size_alloc] at hlt3'
  have hB3 : Below w.heap.size w w3 := by repeat (first | (with_reducible exact Below.refl _ _) | (with_reducible refine Below.setCell ?_ ?_ _) | (with_reducible refine Below.drew ?_) | (with_reducible refine Below.alloc ?_ ?_ _) | (with_reducible refine Below.trans ?_ (Below.mono hw3 ?_)) | (with_reducible refine Below.trans ?_ (Below.mono hB2 ?_)) | (with_reducible exact hw3.size) | (with_reducible exact hB2.size) | omega | (simp <;> omega) | (simp <;> (have s := hw3.size; omega)) | (simp <;> (have s := hB2.size; omega)) | (have s0 := hw3.size; (try simp at s0); have s1 := hB2.size; (try simp at s1); (try simp); omega))
  have hB23 : Below w2.heap.size w2 w3 := ((Below.refl _ w2).alloc (Nat.le_refl _) _).trans (hw3.mono (by simp))
  have bF : ∀ (o : Nat) (v : Value), w1.cell? ⟨w.heap.size, o, none⟩ = some v → w3.cell? ⟨w.heap.size, o, none⟩ = some v := fun o v h => (hB23.cell (p := ⟨w.heap.size, o, none⟩) z20).trans ((kg o).trans h)
  have gB1 : Boxed w3 (w.heap.size + 1) 23 (.slice none 0 0) := by
    have g := Boxed.new (w.alloc (.cells #[.int .i64 a, .int .i64 b, .int .i64 c, .slice (some ⟨bl, off, none⟩) L.length cap] 25)) 23 (.slice none 0 0)
    rw [World.size_alloc] at g
    exact Boxed.below (Boxed.kept (Boxed.below (g.alloc (.cells #[.int .i64 0] 28)) hw1 (by simp)) hgrow (by simp)) hB23 (by omega)
  have gB2 : Boxed w3 (w.heap.size + 1 + 1) 28 (.int .i64 0) := by
    have g := Boxed.new ((w.alloc (.cells #[.int .i64 a, .int .i64 b, .int .i64 c, .slice (some ⟨bl, off, none⟩) L.length cap] 25)).alloc (.cells #[.slice none 0 0] 23)) 28 (.int .i64 0)
    rw [World.size_alloc, World.size_alloc] at g
    exact Boxed.below (Boxed.kept (Boxed.below g hw1 (by simp)) hgrow (by simp)) hB23 (by omega)
  have gF : w3.heap[w.heap.size]? = some (.cells #[.int .i64 a, .int .i64 b, .int .i64 c, .slice (some ⟨bl, off, none⟩) L.length cap] 25 (0, 0)) := by
    have g : (((w.alloc (.cells #[.int .i64 a, .int .i64 b, .int .i64 c, .slice (some ⟨bl, off, none⟩) L.length cap] 25)).alloc (.cells #[.slice none 0 0] 23)).alloc (.cells #[.int .i64 0] 28)).heap[w.heap.size]? = some (.cells #[.int .i64 a, .int .i64 b, .int .i64 c, .slice (some ⟨bl, off, none⟩) L.length cap] 25 (0, 0)) :=
      (Below.heap_alloc _ _ _ (by simp; omega)).trans ((Below.heap_alloc _ _ _ (by simp)).trans (World.alloc_heap_new w _))
    exact (hB23.block _ z20).trans ((hgrow.block _ z10 (by simp)).trans ((hw1.block _ (by simp; omega)).trans g))
  have P0 : PS w w2.heap.size #[.int .i64 a, .int .i64 b, .int .i64 c, .slice (some ⟨bl, off, none⟩) L.length cap] #[.int .i64 a, .int .i64 b, .int .i64 c] w3 (.slice (some ⟨w1.heap.size, 0, none⟩) 0 L.length) (3 * ([] : List (Fin N)).length) ((plqs a b c L (([] : List (Fin N)).map Fin.val)).flatMap uc) :=
    ⟨Boxed.below (Boxed.new w2 _ _) hw3 (by simp), ownsRow_below (hown.kept (World.grownBy_alloc w2 _ none) (.inr (by simp [Value.ownBlock]))) hw3 (fun p' n' c' e' => by cases e'; simp; omega), gB1, gB2, gF, by rw [← World.size_alloc w2]; exact hbx⟩
  refine wpIn_rangeFunc_ownG (n := 100) (F := Fence.wide) rfl (by decide) (gf := 74) (lb := #[.pointer (some ⟨w2.heap.size + 1, 0, none⟩)]) rfl trivial (enters_of Tryz.func74 (by kernel_rfl) rfl)
    (places_stops 99 (by decide) (w2.heap.size + 1) N a b c hz hN w3 (by omega) (by simpa using q0) (by simpa using q1) (by simpa using q2)) KB.trans (KB.put w3 (by omega)) (Below.refl _ _) (fun _ => rfl)
    (fun (pre : List (Fin N)) W => (∃ v, PS w w2.heap.size #[.int .i64 a, .int .i64 b, .int .i64 c, .slice (some ⟨bl, off, none⟩) L.length cap] #[.int .i64 a, .int .i64 b, .int .i64 c] W v (3 * pre.length) ((plqs a b c L (pre.map Fin.val)).flatMap uc)) ∧ Below w.heap.size w W)
    (fun _ _ _ => False)
    (OwnFrom.and (Own.from (PS.own w w2.heap.size #[.int .i64 a, .int .i64 b, .int .i64 c, .slice (some ⟨bl, off, none⟩) L.length cap] #[.int .i64 a, .int .i64 b, .int .i64 c] (fun (pre : List (Fin N)) => 3 * pre.length) (fun pre => (plqs a b c L (pre.map Fin.val)).flatMap uc)) _) (ownFrom_below (Nat.le_refl _) (by omega)))
    (fun _ _ _ _ _ hs _ _ => hs)
    ⟨⟨_, P0⟩, hB3⟩
    (fun x => { tmps := #[.agg #[.int .i64 a, .int .i64 b, .int .i64 c, .slice (some ⟨bl, off, none⟩) L.length cap], .pointer (some ⟨w.heap.size, 0, none⟩), .pointer (some ⟨w.heap.size + 1, 0, none⟩), .pointer (some ⟨w.heap.size + 1 + 1, 0, none⟩), .int .i64 0, .pointer (some ⟨w2.heap.size, 0, none⟩), .int .i64 (x.val : Int), undef, undef, undef, undef, undef, undef, .agg #[.int .i64 a, .int .i64 b, .int .i64 c, .slice (some ⟨bl, off, none⟩) L.length cap], .int .i64 0, .int .i64 0, .bool false, undef, .pointer (some ⟨w.heap.size, 3, none⟩), .slice (some ⟨bl, off, none⟩) L.length cap, .int .i64 L.length, .slice (some ⟨w1.heap.size, 0, none⟩) 0 L.length, .pointer (some ⟨w.heap.size, 0, none⟩), .agg #[.int .i64 a, .int .i64 b, .int .i64 c], .func (.func 74) #[] #[.pointer (some ⟨w2.heap.size + 1, 0, none⟩)], .int .i64 (x.val : Int), .agg #[.int .i64 ((x.val : Int) % a), .int .i64 ((x.val : Int) / a % b), .int .i64 ((x.val : Int) / a / b)], undef, undef, undef, undef, undef, undef, undef, undef, undef, undef, undef, undef, undef, undef, undef, undef, undef, undef, undef, undef, undef, undef, undef, undef, undef, undef, undef, undef, undef, undef, undef, undef, undef], defers := [] }) ?assign ?body ?done ?stop
  case assign =>
    intro l x W K hK
    gi_wp2
    exact hK
  case body =>
    rintro l pre x W ⟨⟨v, hP0⟩, hB0⟩ hpl
    have kc := @Tail.cell_re; have kc1 : ∀ (W : World) (o : Obj) (d : Nat) (os : Array Obj) (a : Addr), a.block ≤ W.heap.size → (Sort.grow (redrawn (W.alloc o) d) os).cell? a = (W.alloc o).cell? a := fun W o d os a h => Tail.cell_re (W.alloc o) d os a (Nat.lt_of_le_of_lt h (by simp))
    have xlt : (0 : Int) ≤ (x.val : Int) ∧ (x.val : Int) < a * b * c := by have := x.isLt; omega
    have hN64 : N ≤ 64 := by
      obtain ⟨a1, a4, b1, b4, c1, c4, -⟩ := hz
      have := (mul_rng a1 a4 b1 b4 c1 c4)
      omega
    have cA : ∀ (W : World) (g pc : Nat) (p q : Int), Lies W bl off L → LiesI W g 0 [p, q, -p, -q] → (∀ t ∈ [p, q, -p, -q], IsStep t) → Calls Tryz.prog 41 #[.agg #[.int .i64 a, .int .i64 b, .int .i64 c, .slice (some ⟨bl, off, none⟩) L.length cap], .int .i64 (x.val : Int), .slice (some ⟨g, 0, none⟩) 4 pc] W fun e w' => e = .returned (.tuple #[.agg #[.int .i64 (al a b c L x.val [p, q, -p, -q]).a, .int .i64 (al a b c L x.val [p, q, -p, -q]).b, .int .i64 (al a b c L x.val [p, q, -p, -q]).c, .int .i64 (al a b c L x.val [p, q, -p, -q]).d, .int .i64 (al a b c L x.val [p, q, -p, -q]).n], .int .i64 0]) ∧ Below W.heap.size W w' :=
      fun W g pc p q h1 h2 h3 => along_some a b c x.val bl off cap g 0 pc L [p, q, -p, -q] W hF xlt.1 xlt.2 h1 h2 h3 (by simp) (by simp)
    obtain ⟨U0, hU0⟩ : ∃ U, U = al a b c L x.val [1, 2, -1, -2] := ⟨_, rfl⟩
    have cA0 : ∀ (W : World) (g pc : Nat), Lies W bl off L → LiesI W g 0 [1, 2, -1, -2] → Calls Tryz.prog 41 #[.agg #[.int .i64 a, .int .i64 b, .int .i64 c, .slice (some ⟨bl, off, none⟩) L.length cap], .int .i64 (x.val : Int), .slice (some ⟨g, 0, none⟩) 4 pc] W fun e w' => e = .returned (.tuple #[.agg #[.int .i64 U0.a, .int .i64 U0.b, .int .i64 U0.c, .int .i64 U0.d, .int .i64 U0.n], .int .i64 0]) ∧ Below W.heap.size W w' := by
      rw [hU0]
      exact fun W g pc h1 h2 => cA W g pc 1 2 h1 h2 (by simp [IsStep])
    replace hU0 := Lib.hid hU0
    obtain ⟨U1, hU1⟩ : ∃ U, U = al a b c L x.val [1, 3, -1, -3] := ⟨_, rfl⟩
    have cA1 : ∀ (W : World) (g pc : Nat), Lies W bl off L → LiesI W g 0 [1, 3, -1, -3] → Calls Tryz.prog 41 #[.agg #[.int .i64 a, .int .i64 b, .int .i64 c, .slice (some ⟨bl, off, none⟩) L.length cap], .int .i64 (x.val : Int), .slice (some ⟨g, 0, none⟩) 4 pc] W fun e w' => e = .returned (.tuple #[.agg #[.int .i64 U1.a, .int .i64 U1.b, .int .i64 U1.c, .int .i64 U1.d, .int .i64 U1.n], .int .i64 0]) ∧ Below W.heap.size W w' := by
      rw [hU1]
      exact fun W g pc h1 h2 => cA W g pc 1 3 h1 h2 (by simp [IsStep])
    replace hU1 := Lib.hid hU1
    obtain ⟨U2, hU2⟩ : ∃ U, U = al a b c L x.val [2, 3, -2, -3] := ⟨_, rfl⟩
    have cA2 : ∀ (W : World) (g pc : Nat), Lies W bl off L → LiesI W g 0 [2, 3, -2, -3] → Calls Tryz.prog 41 #[.agg #[.int .i64 a, .int .i64 b, .int .i64 c, .slice (some ⟨bl, off, none⟩) L.length cap], .int .i64 (x.val : Int), .slice (some ⟨g, 0, none⟩) 4 pc] W fun e w' => e = .returned (.tuple #[.agg #[.int .i64 U2.a, .int .i64 U2.b, .int .i64 U2.c, .int .i64 U2.d, .int .i64 U2.n], .int .i64 0]) ∧ Below W.heap.size W w' := by
      rw [hU2]
      exact fun W g pc h1 h2 => cA W g pc 2 3 h1 h2 (by simp [IsStep])
    replace hU2 := Lib.hid hU2
    have j0 : ∀ w, (Instr.index 80 (.agg #[.int .i64 1, .int .i64 2, .int .i64 1, .int .i64 3, .int .i64 2, .int .i64 3]) (.int .i64 0)).run Tryz.prog w = .ok (.agg #[.int .i64 1, .int .i64 2]) w := fun _ => by kernel_rfl
    have j1 : ∀ w, (Instr.index 80 (.agg #[.int .i64 1, .int .i64 2, .int .i64 1, .int .i64 3, .int .i64 2, .int .i64 3]) (.int .i64 1)).run Tryz.prog w = .ok (.agg #[.int .i64 1, .int .i64 3]) w := fun _ => by kernel_rfl
    have j2 : ∀ w, (Instr.index 80 (.agg #[.int .i64 1, .int .i64 2, .int .i64 1, .int .i64 3, .int .i64 2, .int .i64 3]) (.int .i64 2)).run Tryz.prog w = .ok (.agg #[.int .i64 2, .int .i64 3]) w := fun _ => by kernel_rfl
    obtain ⟨ao, m, cp, rfl⟩ := hP0.shape
    obtain ⟨CS, hCS⟩ : ∃ CS, CS = (plqs a b c L (pre.map Fin.val)).flatMap uc := ⟨_, rfl⟩
    rw [← hCS] at hP0
    replace hCS := Lib.hid hCS
    have hlt5 : w.heap.size + 1 + 1 < w2.heap.size := by omega
    clear cA xlt hF hz hr hN
    gi_wp2_with fail
    refine wpIn_loop_rounds 4 ?_
    have hv0 := hP0.hv
    have row0 := hP0.row
    have hvl0 := hP0.mark
    have f0 := hP0.cell 0 rfl
    have f1 := hP0.cell 1 rfl
    have f2 := hP0.cell 2 rfl
    have f3 := hP0.cell 3 rfl
    have zW : w.heap.size < W.heap.size := World.block_lt_of_cell? W _ f0
    rw [roundsIn_succ]
    gi_wp2_with fail
    refine TailIn.round_tail_below 5 (by kernel_rfl) (by kernel_rfl) (by kernel_rfl) ?_
    simp only [List.take_succ_cons, List.take_zero]
    repeat (go_big_quiet_step (fail))
    refine wpQuiet_nil ?_
    intro w4 hw4
    simp only [List.drop_succ_cons, List.drop_zero]
    have hc4 := Tail.cells hw4
    have s4 := hw4.size
    simp at s4
    have z40 : w.heap.size < w4.heap.size := by omega
    gi_wp2_with (first
      | (refine ⟨trivial, ?_⟩; gi_at_call 41; refine (CallsIn.inRound l (callsIn_wide.2 (cA0 _ _ 4 (hl.later (by repeat (first | (with_reducible exact Below.refl _ _) | (with_reducible refine Below.setCell ?_ ?_ _) | (with_reducible refine Below.drew ?_) | (with_reducible refine Below.alloc ?_ ?_ _) | (with_reducible refine Below.trans ?_ (Below.mono hw4 ?_)) | (with_reducible refine Below.trans ?_ (Below.mono hB0 ?_)) | (with_reducible exact hw4.size) | (with_reducible exact hB0.size) | omega | (simp <;> omega) | (simp <;> (have s := hw4.size; omega)) | (simp <;> (have s := hB0.size; omega)) | (have s0 := hw4.size; (try simp at s0); have s1 := hB0.size; (try simp at s1); (try simp); omega)))) (lies4 (by simp [go_sem]) (by simp [go_sem]) (by simp [go_sem]) (by simp [go_sem]))))).mono ?_; rintro e w5 ⟨rfl, hw5⟩; have hb5 : Below W.heap.size W w5 := (by repeat (first | (with_reducible exact Below.refl _ _) | (with_reducible refine Below.setCell ?_ ?_ _) | (with_reducible refine Below.drew ?_) | (with_reducible refine Below.alloc ?_ ?_ _) | (with_reducible refine Below.trans ?_ (Below.mono hw5 ?_)) | (with_reducible refine Below.trans ?_ (Below.mono hw4 ?_)) | (with_reducible exact hw5.size) | (with_reducible exact hw4.size) | omega | (simp <;> omega) | (simp <;> (have s := hw5.size; omega)) | (simp <;> (have s := hw4.size; omega)) | (have s0 := hw5.size; (try simp at s0); have s1 := hw4.size; (try simp at s1); (try simp); omega))); have hv5 := Boxed.below hv0 hb5 hv0.lt; have c5 := hv5.cell; have d5 := hv5.frozen; have row5 := ownsRow_below row0 hb5 hvl0; have ap5 := row_apart row5 hv5 (show (23 : TypeId) ≠ 55 by decide); have l5 := hv5.lt; have s5 := hb5.size)
      | (gi_at_builtin; refine wpListIn_append_own _ rfl (.tmp 54) (.tmp 56) 23 rfl w.heap.size 55 i0 _ 5 40 Tryz.underlying23 hi hz0 hz1 hz2 rfl (by decide) (.slice ao m cp) (3 * pre.length) CS rfl ((row5.alloc _).alloc _) ⟨w5.heap.size + 1, 0, none⟩ 1 1 (uc U0) rfl rfl (five_cells rfl (by simp [go_sem]) (by simp [go_sem]) (by simp [go_sem]) (by simp [go_sem]) (by simp [go_sem])) (five_one rfl) (by unfold maxLen; omega) (by omega) (by simp; omega) ?_; intro v6 w6 hown6 hgrow6 _; obtain ⟨g60, cap60, rfl⟩ := ownsRow_succ hown6; have hv6 : Boxed w6 w2.heap.size 23 (.slice ao m cp) := (by refine Boxed.kept ?_ hgrow6 ap5; exact (hv5.alloc _).alloc _); have c6 := hv6.cell; have d6 := hv6.frozen))
    obtain ⟨hP1, kf1, kb1, bl1⟩ := hP0.step (by omega) hb5 hgrow6 hown6
    replace bl1 := bl1 hB0
    generalize w6.setCell ⟨w2.heap.size, 0, none⟩ (.slice (some ⟨g60, 0, none⟩) ((3 * pre.length) + 1) cap60) = X1 at *
    clear c6 d6 hv6 hgrow6 hown6 s5 l5 ap5 row5 d5 c5 hv5 hb5 hw5 z40 s4 hc4 hw4 zW f0 f1 f2 f3 hv0 row0 hvl0
    have hB1 := bl1
    have hv1 := hP1.hv
    have row1 := hP1.row
    have hvl1 := hP1.mark
    have f0 := hP1.cell 0 rfl
    have f1 := hP1.cell 1 rfl
    have f2 := hP1.cell 2 rfl
    have f3 := hP1.cell 3 rfl
    have zW : w.heap.size < X1.heap.size := World.block_lt_of_cell? X1 _ f0
    rw [roundsIn_succ]
    gi_wp2_with fail
    refine TailIn.round_tail_below 5 (by kernel_rfl) (by kernel_rfl) (by kernel_rfl) ?_
    simp only [List.take_succ_cons, List.take_zero]
    repeat (go_big_quiet_step (fail))
    refine wpQuiet_nil ?_
    intro w4 hw4
    simp only [List.drop_succ_cons, List.drop_zero]
    have hc4 := Tail.cells hw4
    have s4 := hw4.size
    simp at s4
    have z40 : w.heap.size < w4.heap.size := by omega
    gi_wp2_with (first
      | (refine ⟨trivial, ?_⟩; gi_at_call 41; refine (CallsIn.inRound l (callsIn_wide.2 (cA1 _ _ 4 (hl.later (by repeat (first | (with_reducible exact Below.refl _ _) | (with_reducible refine Below.setCell ?_ ?_ _) | (with_reducible refine Below.drew ?_) | (with_reducible refine Below.alloc ?_ ?_ _) | (with_reducible refine Below.trans ?_ (Below.mono hw4 ?_)) | (with_reducible refine Below.trans ?_ (Below.mono hB1 ?_)) | (with_reducible exact hw4.size) | (with_reducible exact hB1.size) | omega | (simp <;> omega) | (simp <;> (have s := hw4.size; omega)) | (simp <;> (have s := hB1.size; omega)) | (have s0 := hw4.size; (try simp at s0); have s1 := hB1.size; (try simp at s1); (try simp); omega)))) (lies4 (by simp [go_sem]) (by simp [go_sem]) (by simp [go_sem]) (by simp [go_sem]))))).mono ?_; rintro e w5 ⟨rfl, hw5⟩; have hb5 : Below X1.heap.size X1 w5 := (by repeat (first | (with_reducible exact Below.refl _ _) | (with_reducible refine Below.setCell ?_ ?_ _) | (with_reducible refine Below.drew ?_) | (with_reducible refine Below.alloc ?_ ?_ _) | (with_reducible refine Below.trans ?_ (Below.mono hw5 ?_)) | (with_reducible refine Below.trans ?_ (Below.mono hw4 ?_)) | (with_reducible exact hw5.size) | (with_reducible exact hw4.size) | omega | (simp <;> omega) | (simp <;> (have s := hw5.size; omega)) | (simp <;> (have s := hw4.size; omega)) | (have s0 := hw5.size; (try simp at s0); have s1 := hw4.size; (try simp at s1); (try simp); omega))); have hv5 := Boxed.below hv1 hb5 hv1.lt; have c5 := hv5.cell; have d5 := hv5.frozen; have row5 := ownsRow_below row1 hb5 hvl1; have ap5 := row_apart row5 hv5 (show (23 : TypeId) ≠ 55 by decide); have l5 := hv5.lt; have s5 := hb5.size)
      | (gi_at_builtin; refine wpListIn_append_own _ rfl (.tmp 54) (.tmp 56) 23 rfl w.heap.size 55 i0 _ 5 40 Tryz.underlying23 hi hz0 hz1 hz2 rfl (by decide) (.slice (some ⟨g60, 0, none⟩) (3 * pre.length + 1) cap60) (3 * pre.length + 1) (CS ++ uc U0) rfl ((row5.alloc _).alloc _) ⟨w5.heap.size + 1, 0, none⟩ 1 1 (uc U1) rfl rfl (five_cells rfl (by simp [go_sem]) (by simp [go_sem]) (by simp [go_sem]) (by simp [go_sem]) (by simp [go_sem])) (five_one rfl) (by unfold maxLen; omega) (by omega) (by simp; omega) ?_; intro v6 w6 hown6 hgrow6 _; obtain ⟨g61, cap61, rfl⟩ := ownsRow_succ hown6; have hv6 : Boxed w6 w2.heap.size 23 (.slice (some ⟨g60, 0, none⟩) (3 * pre.length + 1) cap60) := (by refine Boxed.kept ?_ hgrow6 ap5; exact (hv5.alloc _).alloc _); have c6 := hv6.cell; have d6 := hv6.frozen))
    obtain ⟨hP2, kf2, kb2, bl2⟩ := hP1.step (by omega) hb5 hgrow6 hown6
    replace bl2 := bl2 hB1
    generalize w6.setCell ⟨w2.heap.size, 0, none⟩ (.slice (some ⟨g61, 0, none⟩) ((3 * pre.length + 1) + 1) cap61) = X2 at *
    clear c6 d6 hv6 hgrow6 hown6 s5 l5 ap5 row5 d5 c5 hv5 hb5 hw5 z40 s4 hc4 hw4 zW f0 f1 f2 f3 hv1 row1 hvl1
    have hB2 := bl2
    have hv2 := hP2.hv
    have row2 := hP2.row
    have hvl2 := hP2.mark
    have f0 := hP2.cell 0 rfl
    have f1 := hP2.cell 1 rfl
    have f2 := hP2.cell 2 rfl
    have f3 := hP2.cell 3 rfl
    have zW : w.heap.size < X2.heap.size := World.block_lt_of_cell? X2 _ f0
    rw [roundsIn_succ]
    gi_wp2_with fail
    refine TailIn.round_tail_below 5 (by kernel_rfl) (by kernel_rfl) (by kernel_rfl) ?_
    simp only [List.take_succ_cons, List.take_zero]
    repeat (go_big_quiet_step (fail))
    refine wpQuiet_nil ?_
    intro w4 hw4
    simp only [List.drop_succ_cons, List.drop_zero]
    have hc4 := Tail.cells hw4
    have s4 := hw4.size
    simp at s4
    have z40 : w.heap.size < w4.heap.size := by omega
    gi_wp2_with (first
      | (refine ⟨trivial, ?_⟩; gi_at_call 41; refine (CallsIn.inRound l (callsIn_wide.2 (cA2 _ _ 4 (hl.later (by repeat (first | (with_reducible exact Below.refl _ _) | (with_reducible refine Below.setCell ?_ ?_ _) | (with_reducible refine Below.drew ?_) | (with_reducible refine Below.alloc ?_ ?_ _) | (with_reducible refine Below.trans ?_ (Below.mono hw4 ?_)) | (with_reducible refine Below.trans ?_ (Below.mono hB2 ?_)) | (with_reducible exact hw4.size) | (with_reducible exact hB2.size) | omega | (simp <;> omega) | (simp <;> (have s := hw4.size; omega)) | (simp <;> (have s := hB2.size; omega)) | (have s0 := hw4.size; (try simp at s0); have s1 := hB2.size; (try simp at s1); (try simp); omega)))) (lies4 (by simp [go_sem]) (by simp [go_sem]) (by simp [go_sem]) (by simp [go_sem]))))).mono ?_; rintro e w5 ⟨rfl, hw5⟩; have hb5 : Below X2.heap.size X2 w5 := (by repeat (first | (with_reducible exact Below.refl _ _) | (with_reducible refine Below.setCell ?_ ?_ _) | (with_reducible refine Below.drew ?_) | (with_reducible refine Below.alloc ?_ ?_ _) | (with_reducible refine Below.trans ?_ (Below.mono hw5 ?_)) | (with_reducible refine Below.trans ?_ (Below.mono hw4 ?_)) | (with_reducible exact hw5.size) | (with_reducible exact hw4.size) | omega | (simp <;> omega) | (simp <;> (have s := hw5.size; omega)) | (simp <;> (have s := hw4.size; omega)) | (have s0 := hw5.size; (try simp at s0); have s1 := hw4.size; (try simp at s1); (try simp); omega))); have hv5 := Boxed.below hv2 hb5 hv2.lt; have c5 := hv5.cell; have d5 := hv5.frozen; have row5 := ownsRow_below row2 hb5 hvl2; have ap5 := row_apart row5 hv5 (show (23 : TypeId) ≠ 55 by decide); have l5 := hv5.lt; have s5 := hb5.size)
      | (gi_at_builtin; refine wpListIn_append_own _ rfl (.tmp 54) (.tmp 56) 23 rfl w.heap.size 55 i0 _ 5 40 Tryz.underlying23 hi hz0 hz1 hz2 rfl (by decide) (.slice (some ⟨g61, 0, none⟩) (3 * pre.length + 1 + 1) cap61) (3 * pre.length + 1 + 1) (CS ++ uc U0 ++ uc U1) rfl ((row5.alloc _).alloc _) ⟨w5.heap.size + 1, 0, none⟩ 1 1 (uc U2) rfl rfl (five_cells rfl (by simp [go_sem]) (by simp [go_sem]) (by simp [go_sem]) (by simp [go_sem]) (by simp [go_sem])) (five_one rfl) (by unfold maxLen; omega) (by omega) (by simp; omega) ?_; intro v6 w6 hown6 hgrow6 _; obtain ⟨g62, cap62, rfl⟩ := ownsRow_succ hown6; have hv6 : Boxed w6 w2.heap.size 23 (.slice (some ⟨g61, 0, none⟩) (3 * pre.length + 1 + 1) cap61) := (by refine Boxed.kept ?_ hgrow6 ap5; exact (hv5.alloc _).alloc _); have c6 := hv6.cell; have d6 := hv6.frozen))
    obtain ⟨hP3, kf3, kb3, bl3⟩ := hP2.step (by omega) hb5 hgrow6 hown6
    replace bl3 := bl3 hB2
    generalize w6.setCell ⟨w2.heap.size, 0, none⟩ (.slice (some ⟨g62, 0, none⟩) ((3 * pre.length + 1 + 1) + 1) cap62) = X3 at *
    clear c6 d6 hv6 hgrow6 hown6 s5 l5 ap5 row5 d5 c5 hv5 hb5 hw5 z40 s4 hc4 hw4 zW f0 f1 f2 f3 hv2 row2 hvl2
    have hB3 := bl3
    rw [roundsIn_succ]
    gi_wp2_with fail
    have e1 : 3 * (pre ++ [x]).length = 3 * pre.length + 1 + 1 + 1 := by simp; omega
    have e2 : (plqs a b c L ((pre ++ [x]).map Fin.val)).flatMap uc = CS ++ uc U0 ++ uc U1 ++ uc U2 := by
      rw [hCS.out, hU0.out, hU1.out, hU2.out]
      simp [plqs, plq]
    refine ⟨((kf1 _).trans (kf2 _)).trans (kf3 _), (kb1.trans kb2).trans kb3, ⟨.slice (some ⟨g62, 0, none⟩) (3 * pre.length + 1 + 1 + 1) cap62, ?_⟩, hB3⟩
    rw [e1, e2]
    exact hP3
  case done =>
    rintro D ys W hD hys ⟨⟨v, hP⟩, hB⟩ hK
    obtain ⟨hv, hrow, b1, b2, b3, -⟩ := hP
    obtain ⟨ao, m, cp, rfl⟩ : ∃ ao m cp, v = .slice ao m cp := by
      rcases hrow.2 with ⟨rfl, _⟩ | ⟨g, cap, cur, rfl, _⟩
      · exact ⟨_, _, _, rfl⟩
      · exact ⟨_, _, _, rfl⟩
    have hc := hv.cell
    have e1 := b1.cell
    have e2 := b1.frozen
    have e3 := b2.cell
    have e4 := b2.frozen
    gi_wp2
    have hK2 := ((KeepsOthers.setCell W ⟨w.heap.size + 1, 0, none⟩ (.slice ao m cp)).trans (KeepsOthers.setCell _ ⟨w.heap.size + 1 + 1, 0, none⟩ (.int .i64 0))).same D _ hK rfl
    refine ⟨by simp, .inl ⟨_, _, rfl, run_takeDeferred hK2, ?_⟩⟩
    have apart : ∀ B v', (W.heap[B]? = some (.cells #[v'] 23 (0, 0)) ∨ W.heap[B]? = some (.cells #[v'] 28 (0, 0)) ∨ W.heap[B]? = some (.deferred (some []))) → (Value.slice ao m cp).ownBlock = none ∨ (Value.slice ao m cp).ownBlock ≠ some B := by
      intro B v' hb'
      rcases hrow.2 with ⟨e, _⟩ | ⟨g, cap', cur, e, _, hgg, _⟩
      · left; cases e; rfl
      · right
        cases e
        intro e'
        simp [Value.ownBlock] at e'
        subst e'
        rcases hb' with hb' | hb' | hb' <;> (rw [hb'] at hgg; simp at hgg)
    have r1 := hrow.kept (grownBy_setCell' W (w.heap.size + 1) (.slice ao m cp)) (apart _ _ (.inl b1))
    have r2 := r1.kept (grownBy_setCell' _ (w.heap.size + 1 + 1) (.int .i64 0)) (apart _ _ (.inr (.inl b2)))
    have r3 := ownsRow_putObj r2 (.deferred none) hK2 rfl
    have hlen' : ys.length = N := by have := congrArg List.length hys; simpa using this
    rw [hys, hlen'] at r3
    have hD1 : w.heap.size + 1 + 1 < D := by omega
    refine ⟨.tuple #[.slice ao m cp, .int .i64 0], ?_, ⟨_, rfl, r3, ?_⟩⟩
    · have pc : ∀ (X : World) (k o : Nat), k < D → (X.putObj D (.deferred none)).cell? ⟨k, o, none⟩ = X.cell? ⟨k, o, none⟩ := fun X k o h => World.cell?_of_block (w := X) (a := ⟨k, o, none⟩) (World.putObj_heap_other (by dsimp only; omega))
      have x1 : ((W.setCell ⟨w.heap.size + 1, 0, none⟩ (.slice ao m cp)).setCell ⟨w.heap.size + 1 + 1, 0, none⟩ (.int .i64 0)).cell? ⟨w.heap.size + 1, 0, none⟩ = some (.slice ao m cp) := by simp [go_sem, e1, e3]
      have x2 : ((W.setCell ⟨w.heap.size + 1, 0, none⟩ (.slice ao m cp)).setCell ⟨w.heap.size + 1 + 1, 0, none⟩ (.int .i64 0)).cell? ⟨w.heap.size + 1 + 1, 0, none⟩ = some (.int .i64 0) := by simp [go_sem, e1, e3]
      rw [← pc _ _ _ (by omega)] at x1 x2
      simp [results, Tryz.results19, go_sem, x1, x2]
    · exact ((hB.setCell (p := ⟨w.heap.size + 1, 0, none⟩) (by simp) _).setCell (p := ⟨w.heap.size + 1 + 1, 0, none⟩) (by simp; omega) _).trans (belowK_b (w := w) (Nat.le_refl _) _ D _ _ (by omega) hK2 rfl rfl)
  case stop =>
    rintro D c pre W _ _ h _
    exact h.elim
end Go.Proofs.YtkgihmhehkaocaaGreat

/- The plaquettes of a field, as the program makes them: what it answers to a good field and to a bad one.
Conditions: those written at each theorem. -/
namespace Go.Proofs.YtkgihmhehkaocaaGreat
set_option linter.unusedVariables false
set_option linter.unusedSimpArgs false
set_option maxRecDepth 1000000
open Go.RowKit
open Um Tm

theorem plaquettes_good (a b c : Int) (bl off cap N : Nat) (L : List Q) (w : World) (hl : Lies w bl off L) (hF : Fl a b c L) (hr : fldR a b c L 0) (hz : Sz a b c) (hN : (N : Int) = a * b * c) (hlen : L.length ≤ 1000) :
    Calls Tryz.prog 19 #[.agg #[.int .i64 a, .int .i64 b, .int .i64 c, .slice (some ⟨bl, off, none⟩) L.length cap]] w fun e w' => ∃ v, e = .returned (.tuple #[v, .int .i64 0]) ∧ w'.ownsRow w.heap.size 55 5 v (3 * N) ((plqs a b c L (List.range N)).flatMap uc) ∧ Below w.heap.size w w' :=
  callsIn_wide.1 (plaquettes_ok a b c bl off cap N L w hl hF hr hz hN hlen)

end Go.Proofs.YtkgihmhehkaocaaGreat

/- The plaquettes of a field, as the document's answers make them.
Conditions: those written at each theorem. -/
namespace Go.Proofs.YtkgihmhehkaocaaGreat
set_option linter.unusedVariables false
set_option linter.unusedSimpArgs false
set_option maxRecDepth 1000000
open Go.RowKit
open Um Tm

/-- the path of a plaquette -/
def pth (n : Int) : List Int := if n = 0 then [1, 2, -1, -2] else if n = 1 then [1, 3, -1, -3] else [2, 3, -2, -3]
theorem pth_steps (n : Int) : ∀ t ∈ pth n, IsStep t := by
  unfold pth
  split <;> (try split) <;> simp [IsStep]
/-- the units along the plaquettes, by their number -/
def pq (a b c : Int) (L : List Q) (i : Nat) : Q := al a b c L ((i : Int) / 3) (pth ((i : Int) % 3))
def pqs (a b c : Int) (L : List Q) (k : Nat) : List Q := (List.range k).map (pq a b c L)
theorem pqs_len (a b c : Int) (L : List Q) (k : Nat) : (pqs a b c L k).length = k := by simp [pqs]
theorem pqs_succ (a b c : Int) (L : List Q) (k : Nat) : pqs a b c L (k + 1) = pqs a b c L k ++ [pq a b c L k] := by simp [pqs, List.range_succ]
theorem pqs_plqs (a b c : Int) (L : List Q) (N : Nat) : plqs a b c L (List.range N) = pqs a b c L (3 * N) := by
  induction N with
  | zero => rfl
  | succ N ih =>
    rw [List.range_succ, show 3 * (N + 1) = 3 * N + 1 + 1 + 1 by omega, pqs_succ, pqs_succ, pqs_succ, ← ih]
    unfold plqs
    rw [List.flatMap_append]
    simp only [List.flatMap_cons, List.flatMap_nil, List.append_nil, List.append_assoc, List.cons_append, List.nil_append]
    unfold plq pq
    congr 1
    have e0 : ((3 * N : Nat) : Int) / 3 = N := by omega
    have e1 : ((3 * N + 1 : Nat) : Int) / 3 = N := by omega
    have e2 : ((3 * N + 1 + 1 : Nat) : Int) / 3 = N := by omega
    have m0 : ((3 * N : Nat) : Int) % 3 = 0 := by omega
    have m1 : ((3 * N + 1 : Nat) : Int) % 3 = 1 := by omega
    have m2 : ((3 * N + 1 + 1 : Nat) : Int) % 3 = 2 := by omega
    rw [e0, e1, e2, m0, m1, m2]
    simp [pth]

end Go.Proofs.YtkgihmhehkaocaaGreat
