/- Paths of equal steps and of rectangles, as the program makes them.
Conditions: those written at each theorem. -/
import Derived.Test.YtkgihmhehkaocaaGreatRLooA
import Derived.Deep.WholeRow
import Derived.Deep.RegionLaw
import Derived.Laws.CopyOwn
import Derived.Laws.Tables
import Derived.Test.YtkgihmhehkaocaaGreatRWlkA
namespace Go.Proofs.YtkgihmhehkaocaaGreat
set_option linter.unusedVariables false
set_option linter.unusedSimpArgs false
set_option maxRecDepth 1000000
open Go.RowKit
open Um Tm

set_option maxHeartbeats 1600000 in
theorem mul64_1 (n : Int) (w : World) (hn : n = 1 ∨ n = 2 ∨ n = 3 ∨ n = 4) : Calls Tryz.prog 133 #[.int .u64 1, .int .u64 n] w fun e w' => e = .returned (.tuple #[.int .u64 0, .int .u64 n]) ∧ Below w.heap.size w w' := by
  rcases hn with rfl | rfl | rfl | rfl
  all_goals
    go_enter Tryz.func133, Tryz.ntmps133
    go_wp2
    go_ret2
    exact ⟨rfl, by repeat (first | (with_reducible exact Below.refl _ _) | (with_reducible refine Below.setCell ?_ ?_ _) | (with_reducible refine Below.drew ?_) | (with_reducible refine Below.alloc ?_ ?_ _) | omega | (simp <;> omega))⟩
set_option maxHeartbeats 1600000 in
theorem mul_1 (n : Int) (w : World) (hn : n = 1 ∨ n = 2 ∨ n = 3 ∨ n = 4) : Calls Tryz.prog 112 #[.int .u64 1, .int .u64 n] w fun e w' => e = .returned (.tuple #[.int .u64 0, .int .u64 n]) ∧ Below w.heap.size w w' := by
  have c1 := fun W => mul64_1 n W hn
  rcases hn with rfl | rfl | rfl | rfl
  all_goals
    go_enter Tryz.func112, Tryz.ntmps112
    go_wp2_with (fail)
    refine (c1 _).mono ?_
    rintro e w1 ⟨rfl, hw1⟩
    go_wp2
    go_ret2
    exact ⟨rfl, by repeat (first | (with_reducible exact Below.refl _ _) | (with_reducible refine Below.setCell ?_ ?_ _) | (with_reducible refine Below.drew ?_) | (with_reducible refine Below.alloc ?_ ?_ _) | (with_reducible refine Below.trans ?_ (Below.mono hw1 ?_)) | (with_reducible exact hw1.size) | omega | (simp <;> omega) | (simp <;> (have s := hw1.size; omega)) | (have s0 := hw1.size; (try simp at s0); (try simp); omega))⟩
/-- a list of numbers in a block that was just made -/
theorem run_make_ints (n : Nat) (hn : n ≤ 4) (W : World) : Sem.run Tryz.prog (Instr.makeSlice 51 (.int .i64 (n : Int)) (.int .i64 (n : Int))) W = .ok (.slice (some ⟨W.heap.size, 0, none⟩) n n) (W.alloc (.cells ((List.replicate n 0).map vi).toArray 3)) := by
  obtain ⟨i0, hi, hz0, hz1, hz2⟩ := info_parts infoI
  have := run_make (P := Tryz.prog) (w := W) 51 3 i0 _ Tryz.underlying51 hi hz0 .i64 .i64 (n : Int) (n : Int) (by omega) (by omega) (by rw [hz2]; omega) (by omega)
  rw [this, hz1]
  have e : madeCells (Value.int .i64 0).cells ((n : Int).toNat * 1) = ((List.replicate n 0).map vi).toArray := by
    apply Array.ext
    · simp [madeCells]
    · intro i h1 h2
      simp [madeCells, vi, Value.cells, Nat.mod_one]
  rw [e]
  simp
theorem wpList_copyR {w : World} {ops : Array Oper} {rest : List Oper} {o : Oper} {a : Act} {Q : Exit → Act → World → Prop} (hgd : o.guard = none) (d s : Operand) (dT sT : TypeId)
    (ho : o.op = .call { callee := .builtin .copy, args := #[d, s], argTypes := #[dT, sT] }) (x y v : Value) (w' : World) (hd : a.eval d = x) (hs : a.eval s = y) (hrun : (Builtin.copy_ #[dT, sT] o.type #[x, y]).run Tryz.prog w = .ok v w')
    (h : wpList Tryz.prog ops Q rest (a.put o.dst v) w') : wpList Tryz.prog ops Q (o :: rest) a w := by
  refine wpList_plain hgd fun K hK => ?_
  unfold Oper.wp execOp
  simp only [ho, resolve, invoke, builtin, Sem.run_bind, Sem.run_pure, Result.andThen_ok, List.map_toArray, List.map_cons, List.map_nil, hd, hs, hrun]
  exact hK _ _ h
/-- a block that is known whole -/
def KI (w : World) (b : Nat) (l : List Int) : Prop := w.heap[b]? = some (.cells (l.map vi).toArray 3 (0, 0))
theorem KI.cell {w : World} {b : Nat} {l : List Int} (h : KI w b l) {j : Nat} {x : Int} (hx : l[j]? = some x) : w.cell? ⟨b, j, none⟩ = some (.int .i64 x) := by
  unfold KI at h
  simp [World.cell?, h, hx, vi]
theorem KI.lt {w : World} {b : Nat} {l : List Int} (h : KI w b l) : b < w.heap.size := (Array.getElem?_eq_some_iff.1 h).1
theorem KI.later {w w1 : World} {b : Nat} {l : List Int} (h : KI w b l) (hb : Below w.heap.size w w1) : KI w1 b l := (hb.block b h.lt).trans h
theorem grown_setRowL (w : World) (g : Nat) (cs : Array Value) : w.grownBy (w.setRow g cs) (some g) :=
  ⟨rfl, rfl, rfl, by simp [World.setRow], fun k hk hne => by
    have : g ≠ k := fun e => hne (by rw [e])
    simp [World.setRow, Array.getElem?_modify, this]⟩
theorem copy_at (w : World) (ty : TypeId) (b : Nat) (cur cs : List Int) (o dl dc : Nat) (a : Addr) (sl sc : Nat) (h : KI w b cur) (hn : cs.length = Nat.min sl dl) (hfit : o + cs.length ≤ cur.length) (hsrc : ∀ j x, cs[j]? = some x → w.cell? (a.add j) = some (.int .i64 x)) (r : List Int) (hr : cur.take o ++ cs ++ cur.drop (o + cs.length) = r) (q : Int) (hq : (cs.length : Int) = q) :
    (Builtin.copy_ #[51, 51] ty #[.slice (some ⟨b, o, none⟩) dl dc, .slice (some a) sl sc]).run Tryz.prog w = .ok (.int .i64 q) (w.setRow b (r.map vi).toArray) := by
  subst hr hq
  have hs : (Tryz.prog.info? 3).map (·.size) = some 1 := by kernel_rfl
  have := run_copy_row (P := Tryz.prog) w 51 51 ty 3 b o dl dc a sl sc (cur.map vi).toArray 3 (cs.map vi) Tryz.underlying51 hs h (by rw [List.length_map]; exact hn) (fun j u hj => by
    rw [List.getElem?_map] at hj
    cases hx : cs[j]? with
    | none => rw [hx] at hj; cases hj
    | some x => rw [hx] at hj; cases hj; exact hsrc j x hx) (by simp; omega) (ints_one cs)
  rw [this, List.length_map]
  congr 2
  simp [List.map_append, List.map_take, List.map_drop]
theorem KI.set {w : World} {b : Nat} {l : List Int} (h : KI w b l) (r : List Int) : KI (w.setRow b (r.map vi).toArray) b r := setRow_heap w b _ _ _ _ h
theorem KI.below {w w1 : World} {b : Nat} {l : List Int} (hb : Below w.heap.size w w1) (hge : w.heap.size ≤ b) : Below w.heap.size w (w1.setRow b (l.map vi).toArray) := hb.grown (grown_setRowL w1 b _) hb.size (fun j hj => by simp at hj; omega)
theorem KI.ni {w : World} {b B : Nat} {l : List Int} (h : KI w b l) (hB : B ≤ b) : LiesNI w B (some ⟨b, 0, none⟩) l := by
  refine .inr ⟨b, 0, rfl, hB, fun j => ?_, fun i x hx => ?_⟩
  · unfold KI at h
    simp [World.frozen?, h]
  · rw [Nat.zero_add]
    exact h.cell hx
set_option maxHeartbeats 3200000 in
theorem repeat_1 (g : Nat) (t : Int) (w : World) (g0 : w.cell? ⟨g, 0, none⟩ = some (.int .i64 t)) : Calls Tryz.prog 80 #[.slice (some ⟨g, 0, none⟩) 1 1, .int .i64 1] w fun e w' => ∃ b, e = .returned (.slice (some ⟨b, 0, none⟩) 1 1) ∧ LiesNI w' w.heap.size (some ⟨b, 0, none⟩) [t] ∧ Below w.heap.size w w' := by
  have c1 := fun W => mul_1 1 W (by simp)
  have gl := World.block_lt_of_cell? w _ g0
  have mk := fun W => run_make_ints 1 (by decide) W
  go_enter Tryz.func80, Tryz.ntmps80
  go_wp2_with (fail)
  refine (c1 _).mono ?_
  rintro e w1 ⟨rfl, hw1⟩
  have g1 := (hw1.cell gl).trans g0
  have gl1 := Nat.lt_of_lt_of_le gl hw1.size
  have hs1 := hw1.size
  have mk1 : Sem.run Tryz.prog (Instr.makeSlice 51 (.int .i64 1) (.int .i64 1)) w1 = .ok (.slice (some ⟨w1.heap.size, 0, none⟩) 1 1) (w1.alloc (.cells (([0] : List Int).map vi).toArray 3)) := mk w1
  have b1 : Below w.heap.size w (w1.alloc (.cells (([0] : List Int).map vi).toArray 3)) := hw1.trans (ba1.mono hs1)
  have k0 : KI (w1.alloc (.cells (([0] : List Int).map vi).toArray 3)) w1.heap.size [0] := World.alloc_heap_new w1 _
  have r1 := fun ty => copy_at _ ty _ [0] [t] 0 1 1 ⟨g, 0, none⟩ 1 1 k0 rfl (by simp) (fun j x hx => by
    match j, hx with
    | 0, hx => simp at hx; subst hx; simp [go_sem, Addr.add, gl1, g1]
    | j + 1, hx => simp at hx) [t] rfl 1 rfl
  have b1' := Lib.hid (KI.below (b := w1.heap.size) (l := [t]) b1 hs1)
  have K1' := Lib.hid (k0.set [t])
  clear mk c1 g0 hw1 b1 k0 g1 gl gl1
  go_wp2_with (refine wpList_copyR rfl (.tmp 31) (.tmp 32) 51 51 rfl _ _ _ _ (by rfl) (by rfl) (r1 _) ?_)
  clear mk1 r1
  have B1 : Hid (Below w.heap.size w ((w1.alloc (.cells #[vi 0] 3)).setRow w1.heap.size #[vi t])) := b1'
  have K1 : Hid (KI ((w1.alloc (.cells #[vi 0] 3)).setRow w1.heap.size #[vi t]) w1.heap.size [t]) := K1'
  clear b1' K1'
  generalize (w1.alloc (.cells #[vi 0] 3)).setRow w1.heap.size #[vi t] = y1 at *
  generalize w1.heap.size = b at *
  refine wp_loop_rounds 4 ?_
  rw [rounds_succ]
  go_wp2
  go_ret
  exact ⟨_, rfl, K1.out.ni hs1, B1.out⟩
set_option maxHeartbeats 3200000 in
theorem repeat_2 (g : Nat) (t : Int) (w : World) (g0 : w.cell? ⟨g, 0, none⟩ = some (.int .i64 t)) : Calls Tryz.prog 80 #[.slice (some ⟨g, 0, none⟩) 1 1, .int .i64 2] w fun e w' => ∃ b, e = .returned (.slice (some ⟨b, 0, none⟩) 2 2) ∧ LiesNI w' w.heap.size (some ⟨b, 0, none⟩) [t, t] ∧ Below w.heap.size w w' := by
  have c1 := fun W => mul_1 2 W (by simp)
  have gl := World.block_lt_of_cell? w _ g0
  have mk := fun W => run_make_ints 2 (by decide) W
  go_enter Tryz.func80, Tryz.ntmps80
  go_wp2_with (fail)
  refine (c1 _).mono ?_
  rintro e w1 ⟨rfl, hw1⟩
  have g1 := (hw1.cell gl).trans g0
  have gl1 := Nat.lt_of_lt_of_le gl hw1.size
  have hs1 := hw1.size
  have mk1 : Sem.run Tryz.prog (Instr.makeSlice 51 (.int .i64 2) (.int .i64 2)) w1 = .ok (.slice (some ⟨w1.heap.size, 0, none⟩) 2 2) (w1.alloc (.cells (([0, 0] : List Int).map vi).toArray 3)) := mk w1
  have b1 : Below w.heap.size w (w1.alloc (.cells (([0, 0] : List Int).map vi).toArray 3)) := hw1.trans (ba1.mono hs1)
  have k0 : KI (w1.alloc (.cells (([0, 0] : List Int).map vi).toArray 3)) w1.heap.size [0, 0] := World.alloc_heap_new w1 _
  have r1 := fun ty => copy_at _ ty _ [0, 0] [t] 0 2 2 ⟨g, 0, none⟩ 1 1 k0 rfl (by simp) (fun j x hx => by
    match j, hx with
    | 0, hx => simp at hx; subst hx; simp [go_sem, Addr.add, gl1, g1]
    | j + 1, hx => simp at hx) [t, 0] rfl 1 rfl
  have b1' := Lib.hid (KI.below (b := w1.heap.size) (l := [t, 0]) b1 hs1)
  have K1' := Lib.hid (k0.set [t, 0])
  clear mk c1 g0 hw1 b1 k0 g1 gl gl1
  go_wp2_with (refine wpList_copyR rfl (.tmp 31) (.tmp 32) 51 51 rfl _ _ _ _ (by rfl) (by rfl) (r1 _) ?_)
  clear mk1 r1
  have B1 : Hid (Below w.heap.size w ((w1.alloc (.cells #[vi 0, vi 0] 3)).setRow w1.heap.size #[vi t, vi 0])) := b1'
  have K1 : Hid (KI ((w1.alloc (.cells #[vi 0, vi 0] 3)).setRow w1.heap.size #[vi t, vi 0]) w1.heap.size [t, 0]) := K1'
  clear b1' K1'
  generalize (w1.alloc (.cells #[vi 0, vi 0] 3)).setRow w1.heap.size #[vi t, vi 0] = y1 at *
  generalize w1.heap.size = b at *
  refine wp_loop_rounds 4 ?_
  rw [rounds_succ]
  go_wp2
  have X2 : ∀ (W : World), W.heap = y1.heap → ∀ j v, ([vi t] : List Value)[j]? = some v → W.cell? (Addr.add ⟨b, 0, none⟩ j) = some v := fun W hW j v hv => by
    have hk : KI W b [t, 0] := by unfold KI; rw [hW]; exact K1.out
    match j, hv with
    | 0, hv => simp at hv; subst hv; exact hk.cell (j := 0) rfl
    | j + 1, hv => simp at hv
  go_region_law (refine step_copy_splice rfl (.tmp 41) (.tmp 44) 51 51 rfl 3 Tryz.underlying51 (by kernel_rfl) (some ⟨b, 1, none⟩) (some ⟨b, 0, none⟩) 1 1 1 2 (by simp [Act.eval, Act.put]) (by simp [Act.eval, Act.put]) b 1 [vi t, vi 0] 3 K1.out [vi t] rfl (fun _ => ⟨rfl, _, rfl, X2 _ rfl⟩) (by simp) (ints_one [t]) w.heap.size w (by first | exact B1.out | exact Below.drew B1.out) hs1 ?_; intro y2 Q2 P2; have K2 : Hid (KI y2 b [t, t]) := Lib.hid Q2.out; have B2 := Lib.hid P2)
  all_goals
  go_wp2
  rw [rounds_succ]
  go_wp2
  go_ret
  exact ⟨_, rfl, K2.out.ni hs1, B2.out⟩
set_option maxHeartbeats 3200000 in
theorem repeat_3 (g : Nat) (t : Int) (w : World) (g0 : w.cell? ⟨g, 0, none⟩ = some (.int .i64 t)) : Calls Tryz.prog 80 #[.slice (some ⟨g, 0, none⟩) 1 1, .int .i64 3] w fun e w' => ∃ b, e = .returned (.slice (some ⟨b, 0, none⟩) 3 3) ∧ LiesNI w' w.heap.size (some ⟨b, 0, none⟩) [t, t, t] ∧ Below w.heap.size w w' := by
  have c1 := fun W => mul_1 3 W (by simp)
  have gl := World.block_lt_of_cell? w _ g0
  have mk := fun W => run_make_ints 3 (by decide) W
  go_enter Tryz.func80, Tryz.ntmps80
  go_wp2_with (fail)
  refine (c1 _).mono ?_
  rintro e w1 ⟨rfl, hw1⟩
  have g1 := (hw1.cell gl).trans g0
  have gl1 := Nat.lt_of_lt_of_le gl hw1.size
  have hs1 := hw1.size
  have mk1 : Sem.run Tryz.prog (Instr.makeSlice 51 (.int .i64 3) (.int .i64 3)) w1 = .ok (.slice (some ⟨w1.heap.size, 0, none⟩) 3 3) (w1.alloc (.cells (([0, 0, 0] : List Int).map vi).toArray 3)) := mk w1
  have b1 : Below w.heap.size w (w1.alloc (.cells (([0, 0, 0] : List Int).map vi).toArray 3)) := hw1.trans (ba1.mono hs1)
  have k0 : KI (w1.alloc (.cells (([0, 0, 0] : List Int).map vi).toArray 3)) w1.heap.size [0, 0, 0] := World.alloc_heap_new w1 _
  have r1 := fun ty => copy_at _ ty _ [0, 0, 0] [t] 0 3 3 ⟨g, 0, none⟩ 1 1 k0 rfl (by simp) (fun j x hx => by
    match j, hx with
    | 0, hx => simp at hx; subst hx; simp [go_sem, Addr.add, gl1, g1]
    | j + 1, hx => simp at hx) [t, 0, 0] rfl 1 rfl
  have b1' := Lib.hid (KI.below (b := w1.heap.size) (l := [t, 0, 0]) b1 hs1)
  have K1' := Lib.hid (k0.set [t, 0, 0])
  clear mk c1 g0 hw1 b1 k0 g1 gl gl1
  go_wp2_with (refine wpList_copyR rfl (.tmp 31) (.tmp 32) 51 51 rfl _ _ _ _ (by rfl) (by rfl) (r1 _) ?_)
  clear mk1 r1
  have B1 : Hid (Below w.heap.size w ((w1.alloc (.cells #[vi 0, vi 0, vi 0] 3)).setRow w1.heap.size #[vi t, vi 0, vi 0])) := b1'
  have K1 : Hid (KI ((w1.alloc (.cells #[vi 0, vi 0, vi 0] 3)).setRow w1.heap.size #[vi t, vi 0, vi 0]) w1.heap.size [t, 0, 0]) := K1'
  clear b1' K1'
  generalize (w1.alloc (.cells #[vi 0, vi 0, vi 0] 3)).setRow w1.heap.size #[vi t, vi 0, vi 0] = y1 at *
  generalize w1.heap.size = b at *
  refine wp_loop_rounds 4 ?_
  rw [rounds_succ]
  go_wp2
  have X2 : ∀ (W : World), W.heap = y1.heap → ∀ j v, ([vi t] : List Value)[j]? = some v → W.cell? (Addr.add ⟨b, 0, none⟩ j) = some v := fun W hW j v hv => by
    have hk : KI W b [t, 0, 0] := by unfold KI; rw [hW]; exact K1.out
    match j, hv with
    | 0, hv => simp at hv; subst hv; exact hk.cell (j := 0) rfl
    | j + 1, hv => simp at hv
  go_region_law (refine step_copy_splice rfl (.tmp 41) (.tmp 44) 51 51 rfl 3 Tryz.underlying51 (by kernel_rfl) (some ⟨b, 1, none⟩) (some ⟨b, 0, none⟩) 2 2 1 3 (by simp [Act.eval, Act.put]) (by simp [Act.eval, Act.put]) b 1 [vi t, vi 0, vi 0] 3 K1.out [vi t] rfl (fun _ => ⟨rfl, _, rfl, X2 _ rfl⟩) (by simp) (ints_one [t]) w.heap.size w (by first | exact B1.out | exact Below.drew B1.out) hs1 ?_; intro y2 Q2 P2; have K2 : Hid (KI y2 b [t, t, 0]) := Lib.hid Q2.out; have B2 := Lib.hid P2)
  all_goals
  go_wp2
  rw [rounds_succ]
  go_wp2
  have X3 : ∀ (W : World), W.heap = y2.heap → ∀ j v, ([vi t] : List Value)[j]? = some v → W.cell? (Addr.add ⟨b, 0, none⟩ j) = some v := fun W hW j v hv => by
    have hk : KI W b [t, t, 0] := by unfold KI; rw [hW]; exact K2.out
    match j, hv with
    | 0, hv => simp at hv; subst hv; exact hk.cell (j := 0) rfl
    | j + 1, hv => simp at hv
  go_region_law (refine step_copy_splice rfl (.tmp 41) (.tmp 44) 51 51 rfl 3 Tryz.underlying51 (by kernel_rfl) (some ⟨b, 2, none⟩) (some ⟨b, 0, none⟩) 1 1 2 3 (by simp [Act.eval, Act.put]) (by simp [Act.eval, Act.put]) b 2 [vi t, vi t, vi 0] 3 K2.out [vi t] rfl (fun _ => ⟨rfl, _, rfl, X3 _ rfl⟩) (by simp) (ints_one [t]) w.heap.size w (by first | exact B2.out | exact Below.drew B2.out) hs1 ?_; intro y3 Q3 P3; have K3 : Hid (KI y3 b [t, t, t]) := Lib.hid Q3.out; have B3 := Lib.hid P3)
  all_goals
  go_wp2
  rw [rounds_succ]
  go_wp2
  go_ret
  exact ⟨_, rfl, K3.out.ni hs1, B3.out⟩
set_option maxHeartbeats 3200000 in
theorem repeat_4 (g : Nat) (t : Int) (w : World) (g0 : w.cell? ⟨g, 0, none⟩ = some (.int .i64 t)) : Calls Tryz.prog 80 #[.slice (some ⟨g, 0, none⟩) 1 1, .int .i64 4] w fun e w' => ∃ b, e = .returned (.slice (some ⟨b, 0, none⟩) 4 4) ∧ LiesNI w' w.heap.size (some ⟨b, 0, none⟩) [t, t, t, t] ∧ Below w.heap.size w w' := by
  have c1 := fun W => mul_1 4 W (by simp)
  have gl := World.block_lt_of_cell? w _ g0
  have mk := fun W => run_make_ints 4 (by decide) W
  go_enter Tryz.func80, Tryz.ntmps80
  go_wp2_with (fail)
  refine (c1 _).mono ?_
  rintro e w1 ⟨rfl, hw1⟩
  have g1 := (hw1.cell gl).trans g0
  have gl1 := Nat.lt_of_lt_of_le gl hw1.size
  have hs1 := hw1.size
  have mk1 : Sem.run Tryz.prog (Instr.makeSlice 51 (.int .i64 4) (.int .i64 4)) w1 = .ok (.slice (some ⟨w1.heap.size, 0, none⟩) 4 4) (w1.alloc (.cells (([0, 0, 0, 0] : List Int).map vi).toArray 3)) := mk w1
  have b1 : Below w.heap.size w (w1.alloc (.cells (([0, 0, 0, 0] : List Int).map vi).toArray 3)) := hw1.trans (ba1.mono hs1)
  have k0 : KI (w1.alloc (.cells (([0, 0, 0, 0] : List Int).map vi).toArray 3)) w1.heap.size [0, 0, 0, 0] := World.alloc_heap_new w1 _
  have r1 := fun ty => copy_at _ ty _ [0, 0, 0, 0] [t] 0 4 4 ⟨g, 0, none⟩ 1 1 k0 rfl (by simp) (fun j x hx => by
    match j, hx with
    | 0, hx => simp at hx; subst hx; simp [go_sem, Addr.add, gl1, g1]
    | j + 1, hx => simp at hx) [t, 0, 0, 0] rfl 1 rfl
  have b1' := Lib.hid (KI.below (b := w1.heap.size) (l := [t, 0, 0, 0]) b1 hs1)
  have K1' := Lib.hid (k0.set [t, 0, 0, 0])
  clear mk c1 g0 hw1 b1 k0 g1 gl gl1
  go_wp2_with (refine wpList_copyR rfl (.tmp 31) (.tmp 32) 51 51 rfl _ _ _ _ (by rfl) (by rfl) (r1 _) ?_)
  clear mk1 r1
  have B1 : Hid (Below w.heap.size w ((w1.alloc (.cells #[vi 0, vi 0, vi 0, vi 0] 3)).setRow w1.heap.size #[vi t, vi 0, vi 0, vi 0])) := b1'
  have K1 : Hid (KI ((w1.alloc (.cells #[vi 0, vi 0, vi 0, vi 0] 3)).setRow w1.heap.size #[vi t, vi 0, vi 0, vi 0]) w1.heap.size [t, 0, 0, 0]) := K1'
  clear b1' K1'
  generalize (w1.alloc (.cells #[vi 0, vi 0, vi 0, vi 0] 3)).setRow w1.heap.size #[vi t, vi 0, vi 0, vi 0] = y1 at *
  generalize w1.heap.size = b at *
  refine wp_loop_rounds 4 ?_
  rw [rounds_succ]
  go_wp2
  have X2 : ∀ (W : World), W.heap = y1.heap → ∀ j v, ([vi t] : List Value)[j]? = some v → W.cell? (Addr.add ⟨b, 0, none⟩ j) = some v := fun W hW j v hv => by
    have hk : KI W b [t, 0, 0, 0] := by unfold KI; rw [hW]; exact K1.out
    match j, hv with
    | 0, hv => simp at hv; subst hv; exact hk.cell (j := 0) rfl
    | j + 1, hv => simp at hv
  go_region_law (refine step_copy_splice rfl (.tmp 41) (.tmp 44) 51 51 rfl 3 Tryz.underlying51 (by kernel_rfl) (some ⟨b, 1, none⟩) (some ⟨b, 0, none⟩) 3 3 1 4 (by simp [Act.eval, Act.put]) (by simp [Act.eval, Act.put]) b 1 [vi t, vi 0, vi 0, vi 0] 3 K1.out [vi t] rfl (fun _ => ⟨rfl, _, rfl, X2 _ rfl⟩) (by simp) (ints_one [t]) w.heap.size w (by first | exact B1.out | exact Below.drew B1.out) hs1 ?_; intro y2 Q2 P2; have K2 : Hid (KI y2 b [t, t, 0, 0]) := Lib.hid Q2.out; have B2 := Lib.hid P2)
  all_goals
  go_wp2
  rw [rounds_succ]
  go_wp2
  have X3 : ∀ (W : World), W.heap = y2.heap → ∀ j v, ([vi t, vi t] : List Value)[j]? = some v → W.cell? (Addr.add ⟨b, 0, none⟩ j) = some v := fun W hW j v hv => by
    have hk : KI W b [t, t, 0, 0] := by unfold KI; rw [hW]; exact K2.out
    match j, hv with
    | 0, hv => simp at hv; subst hv; exact hk.cell (j := 0) rfl
    | 1, hv => simp at hv; subst hv; exact hk.cell (j := 1) rfl
    | j + 2, hv => simp at hv
  go_region_law (refine step_copy_splice rfl (.tmp 41) (.tmp 44) 51 51 rfl 3 Tryz.underlying51 (by kernel_rfl) (some ⟨b, 2, none⟩) (some ⟨b, 0, none⟩) 2 2 2 4 (by simp [Act.eval, Act.put]) (by simp [Act.eval, Act.put]) b 2 [vi t, vi t, vi 0, vi 0] 3 K2.out [vi t, vi t] rfl (fun _ => ⟨rfl, _, rfl, X3 _ rfl⟩) (by simp) (ints_one [t, t]) w.heap.size w (by first | exact B2.out | exact Below.drew B2.out) hs1 ?_; intro y3 Q3 P3; have K3 : Hid (KI y3 b [t, t, t, t]) := Lib.hid Q3.out; have B3 := Lib.hid P3)
  all_goals
  go_wp2
  rw [rounds_succ]
  go_wp2
  go_ret
  exact ⟨_, rfl, K3.out.ni hs1, B3.out⟩
theorem repeatI_any (g : Nat) (t n : Int) (w : World) (g0 : w.cell? ⟨g, 0, none⟩ = some (.int .i64 t)) (h1 : 1 ≤ n) (h4 : n ≤ 4) : Calls Tryz.prog 80 #[.slice (some ⟨g, 0, none⟩) 1 1, .int .i64 n] w fun e w' => ∃ b, e = .returned (.slice (some ⟨b, 0, none⟩) n.toNat n.toNat) ∧ LiesNI w' w.heap.size (some ⟨b, 0, none⟩) (List.replicate n.toNat t) ∧ Below w.heap.size w w' := by
  have : n = 1 ∨ n = 2 ∨ n = 3 ∨ n = 4 := by omega
  rcases this with rfl | rfl | rfl | rfl
  · exact repeat_1 g t w g0
  · exact repeat_2 g t w g0
  · exact repeat_3 g t w g0
  · exact repeat_4 g t w g0
set_option maxHeartbeats 800000 in
theorem straight_any (t n : Int) (w : World) (h1 : 1 ≤ n) (h4 : n ≤ 4) : Calls Tryz.prog 44 #[.int .i64 t, .int .i64 n] w fun e w' => ∃ b, e = .returned (.slice (some ⟨b, 0, none⟩) n.toNat n.toNat) ∧ LiesNI w' w.heap.size (some ⟨b, 0, none⟩) (List.replicate n.toNat t) ∧ Below w.heap.size w w' := by
  have c1 := fun (g : Nat) (W : World) h => repeatI_any g t n W h h1 h4
  go_enter Tryz.func44, Tryz.ntmps44
  go_wp2_with (fail)
  refine (c1 w.heap.size _ (by simp [go_sem])).mono ?_
  rintro e w1 ⟨b, rfl, hl, hw1⟩
  have HL : Hid (LiesNI w1 w.heap.size (some ⟨b, 0, none⟩) (List.replicate n.toNat t)) := Lib.hid (hl.le (by simp))
  clear hl
  go_wp2
  go_ret
  exact ⟨b, rfl, HL.out, by repeat (first | (with_reducible exact Below.refl _ _) | (with_reducible refine Below.setCell ?_ ?_ _) | (with_reducible refine Below.drew ?_) | (with_reducible refine Below.alloc ?_ ?_ _) | (with_reducible refine Below.trans ?_ (Below.mono hw1 ?_)) | (with_reducible exact hw1.size) | omega | (simp <;> omega) | (simp <;> (have s := hw1.size; omega)) | (have s0 := hw1.size; (try simp at s0); (try simp); omega))⟩
end Go.Proofs.YtkgihmhehkaocaaGreat
