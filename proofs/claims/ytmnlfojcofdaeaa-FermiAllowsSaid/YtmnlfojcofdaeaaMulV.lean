/- Multiples and differences of vectors, as the program makes them.
Conditions: the lists lie in memory as it is written at each theorem. -/
import Derived.Test.YtmnlfojcofdaeaaDotC
import Derived.Laws.CopyRow
import Derived.Laws.CopyOwn
namespace Go.Proofs.Ytmnlfojcofdaeaa
set_option linter.unusedVariables false
set_option linter.unusedSimpArgs false
set_option maxRecDepth 1000000
open Go.RowKit
open Um Tm Fm

theorem IBox.whole {w : World} {g : Nat} {l : List Int} {T : TypeId} (h : w.heap[g]? = some (.cells (l.map vi).toArray T)) : IBox w g l := by
  refine ⟨fun i x hx => ?_, fun j => by simp [World.frozen?, h], (Array.getElem?_eq_some_iff.1 h).1⟩
  rw [Nat.zero_add]
  simp only [World.cell?, h]
  simp [hx, vi]
theorem ones_vi (l : List Int) : ∀ u ∈ l.map vi, u.oneCell' = true := fun u hu => by
  obtain ⟨x, -, rfl⟩ := List.mem_map.1 hu
  rfl
theorem lies_cells {w : World} {b off : Nat} {l : List Int} (h : LiesI w b off l) : ∀ j u, (l.map vi)[j]? = some u → w.cell? (Addr.add ⟨b, off, none⟩ j) = some u := fun j u hj => by
  rw [List.getElem?_map] at hj
  cases hl : l[j]? with
  | none => rw [hl] at hj; cases hj
  | some x =>
    rw [hl] at hj
    simp at hj
    subst hj
    have hadd : (⟨b, off, none⟩ : Addr).add j = ⟨b, off + j, none⟩ := by
      unfold Addr.add
      split
      · rename_i h0; subst h0; rfl
      · rfl
    rw [hadd]
    exact h j x hl
theorem run_copyS (w : World) (ty : TypeId) (g n c1 c2 b off : Nat) (T : TypeId) (cur : Array Value) (M : List Sp) (hn : M.length = n) (hg : w.heap[g]? = some (.cells cur T)) (hs : cur.size = n * 4) (hM : LiesI w b off (fl M)) :
    (Builtin.copy_ #[26, 26] ty #[.slice (some ⟨g, 0, none⟩) n c1, .slice (some ⟨b, off, none⟩) n c2]).run Try.prog w = .ok (goInt n) (w.setRow g ((fl M).map vi).toArray) := by
  obtain ⟨i0, hi, hz0, hz1, hz2⟩ := info_parts infoS
  have hl : ((fl M).map vi).length = n * i0.size := by rw [List.length_map, fl_len, hn, hz1]
  have h1 := run_firstCells_some (P := Try.prog) w i0.size n ⟨b, off, none⟩ n c2 ((fl M).map vi) hl (lies_cells hM)
  have h2 := run_storeCells_at Try.prog g 0 T ((fl M).map vi) 0 cur w hg (by rw [hl, hz1]; omega) (ones_vi _)
  have h3 : (List.take (0 + 0) cur.toList ++ (fl M).map vi ++ List.drop (0 + 0 + ((fl M).map vi).length) cur.toList) = (fl M).map vi := by
    rw [List.drop_of_length_le (by rw [hl, hz1, Array.length_toList]; omega)]
    simp
  rw [h3] at h2
  simp [Builtin.copy_, run_underlying Try.underlying26, Builtin.lenOf, sizeOf, typeInfo, hi, h1, h2, Nat.min_self]
theorem wpList_copyS {w : World} {ops : Array Oper} {rest : List Oper} {o : Oper} {a : Act} {Q : Exit → Act → World → Prop} (hgd : o.guard = none) (d s : Operand) (dT sT : TypeId)
    (ho : o.op = .call { callee := .builtin .copy, args := #[d, s], argTypes := #[dT, sT] }) (x y v : Value) (w' : World) (hd : a.eval d = x) (hs : a.eval s = y) (hrun : (Builtin.copy_ #[dT, sT] o.type #[x, y]).run Try.prog w = .ok v w')
    (h : wpList Try.prog ops Q rest (a.put o.dst v) w') : wpList Try.prog ops Q (o :: rest) a w := by
  refine wpList_plain hgd fun K hK => ?_
  unfold Oper.wp execOp
  simp only [ho, resolve, invoke, builtin, Sem.run_bind, Sem.run_pure, Result.andThen_ok, List.map_toArray, List.map_cons, List.map_nil, hd, hs, hrun]
  exact hK _ _ h
/-- what a call answers that makes a vector -/
def RetS (m : Nat) (M : List Sp) (e : Ending) (w' : World) : Prop := ∃ g k : Nat, e = .returned (.slice (some ⟨g, 0, none⟩) M.length k) ∧ IBox w' g (fl M) ∧ m ≤ g
theorem fl_lt {w : World} {b off : Nat} {M : List Sp} (h : LiesI w b off (fl M)) (hp : 0 < M.length) : b < w.heap.size :=
  World.block_lt_of_cell? _ _ (h _ _ (fl_four (List.getElem?_eq_getElem hp)).1)
set_option maxHeartbeats 3200000 in
theorem multiple_any (k : Int) (b off pc : Nat) (M : List Sp) (w : World) (hM : LiesI w b off (fl M)) (hp : 0 < M.length) (hlen : M.length ≤ 1000000) : Calls Try.prog 85 #[.int .i64 k, .slice (some ⟨b, off, none⟩) M.length pc] w fun e w' => RetS w.heap.size (mulL k M) e w' ∧ Below w.heap.size w w' := by
  have HM := Lib.hid hM
  have HX := Lib.hid (axp_repl k M)
  have HL := Lib.hid (mulL_len k M)
  have mk := fun (W : World) => makeS W M.length M.length rfl hlen
  have hlt := fl_lt hM hp
  have hb0 : Below w.heap.size w (w.alloc (.cells (madeCells sz.toArray (M.length * 4)) 64)) := by repeat (first | (with_reducible exact Below.refl _ _) | (with_reducible refine Below.setCell ?_ ?_ _) | (with_reducible refine Below.drew ?_) | (with_reducible refine Below.alloc ?_ ?_ _) | omega | (simp <;> omega))
  have c1 : Calls Try.prog 98 #[.slice (some ⟨w.heap.size, 0, none⟩) M.length M.length, .int .i64 k, .slice (some ⟨b, off, none⟩) M.length pc] (w.alloc (.cells (madeCells sz.toArray (M.length * 4)) 64)) fun e w' => e = .returned (.tuple #[]) ∧ Hid (IBox w' w.heap.size (fl (mulL k M))) ∧ Below w.heap.size w w' :=
    (addV_any k w.heap.size M.length (some ⟨b, off, none⟩) pc (List.replicate M.length zs) M _ (IBox.madeS (T := 64) (heap_alloc_new _ _) (by simp)) (.inr ⟨b, off, rfl, hM.later hb0⟩) (fun b' o' h => by cases h; omega) (by simp) hlen).mono fun e w' ⟨h1, h2, h3⟩ => ⟨h1, by rw [HX.out] at h2; exact Lib.hid h2, hb0.grown h3 (by simp) (fun j hj => by cases hj; exact Nat.le_refl _)⟩
  clear hM hb0
  go_enter Try.func85, Try.ntmps85
  go_wp2_with ((with_reducible refine c1.mono ?_); rintro e w1 ⟨rfl, hw1, hb1⟩)
  go_ret
  exact ⟨⟨w.heap.size, M.length, by rw [HL.out]; rfl, hw1.out, Nat.le_refl _⟩, hb1⟩
set_option maxHeartbeats 3200000 in
theorem minus_any (qb qo qc b off pc : Nat) (A M : List Sp) (w : World) (hA : LiesI w qb qo (fl A)) (hM : LiesI w b off (fl M)) (hp : 0 < M.length) (hl : A.length = M.length) (hlen : M.length ≤ 1000000) : Calls Try.prog 99 #[.slice (some ⟨qb, qo, none⟩) M.length qc, .slice (some ⟨b, off, none⟩) M.length pc] w fun e w' => RetS w.heap.size (axp (-1) A M) e w' ∧ Below w.heap.size w w' := by
  have HL := Lib.hid ((axp_len (-1) A M).trans hl)
  have mk := fun (W : World) => makeS W M.length M.length rfl hlen
  have hlt := fl_lt hM hp
  have hcs : (madeCells sz.toArray (M.length * 4)).size = M.length * 4 := by simp [madeCells]
  have hgn := heap_alloc_new w (.cells (madeCells sz.toArray (M.length * 4)) 64)
  have hb0 : Below w.heap.size w (w.alloc (.cells (madeCells sz.toArray (M.length * 4)) 64)) := by repeat (first | (with_reducible exact Below.refl _ _) | (with_reducible refine Below.setCell ?_ ?_ _) | (with_reducible refine Below.drew ?_) | (with_reducible refine Below.alloc ?_ ?_ _) | omega | (simp <;> omega))
  have hcp := fun ty => run_copyS (w.alloc (.cells (madeCells sz.toArray (M.length * 4)) 64)) ty w.heap.size M.length M.length qc qb qo 64 _ A hl hgn hcs (hA.later hb0)
  have hbx : IBox ((w.alloc (.cells (madeCells sz.toArray (M.length * 4)) 64)).setRow w.heap.size ((fl A).map vi).toArray) w.heap.size (fl A) := IBox.whole (setRow_heap _ _ _ _ _ _ hgn)
  have hb1 : Below w.heap.size w ((w.alloc (.cells (madeCells sz.toArray (M.length * 4)) 64)).setRow w.heap.size ((fl A).map vi).toArray) := below_setRow hb0 (Nat.le_refl _) _
  generalize (w.alloc (.cells (madeCells sz.toArray (M.length * 4)) 64)).setRow w.heap.size ((fl A).map vi).toArray = W1 at *
  have c1 : Calls Try.prog 98 #[.slice (some ⟨w.heap.size, 0, none⟩) M.length M.length, .int .i64 (-1), .slice (some ⟨b, off, none⟩) M.length pc] W1 fun e w' => e = .returned (.tuple #[]) ∧ Hid (IBox w' w.heap.size (fl (axp (-1) A M))) ∧ Below w.heap.size w w' :=
    (addV_any (-1) w.heap.size M.length (some ⟨b, off, none⟩) pc A M _ hbx (.inr ⟨b, off, rfl, hM.later hb1⟩) (fun b' o' h => by cases h; omega) hl hlen).mono fun e w' ⟨h1, h2, h3⟩ => ⟨h1, Lib.hid h2, hb1.grown h3 hb1.size (fun j hj => by cases hj; exact Nat.le_refl _)⟩
  have HC := Lib.hid hcp
  clear hA hM hb0 hl hgn hcs hbx hb1 hcp
  go_enter Try.func99, Try.ntmps99
  go_wp2_with (first | ((with_reducible refine c1.mono ?_); rintro e w1 ⟨rfl, hw1, hb1⟩) | (refine wpList_copyS rfl (.tmp 9) (.tmp 10) 26 26 rfl _ _ _ _ (by rfl) (by rfl) (HC.out _) ?_))
  go_ret
  exact ⟨⟨w.heap.size, M.length, by rw [HL.out]; rfl, hw1.out, Nat.le_refl _⟩, hb1⟩
end Go.Proofs.Ytmnlfojcofdaeaa
