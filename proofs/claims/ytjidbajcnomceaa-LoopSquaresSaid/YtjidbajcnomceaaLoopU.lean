/- Lists of terms one behind the other, in new memory.
Conditions: those written at each theorem. -/
import Derived.Test.YtjidbajcnomceaaLoopE
namespace Go.Proofs.Ytjidbajcnomceaa
set_option linter.unusedVariables false
set_option linter.unusedSimpArgs false
set_option maxRecDepth 1000000
open Go.RowKit
open Um Tm Lm

theorem rows_at {α : Type} {z : Nat} {enc : α → List Value} {w : World} {b off : Nat} {l : List α} (hz : ∀ x, (enc x).length = z) (h0 : 0 < z) (h : RowsAt z enc w b off l) : ∀ j u, (l.flatMap enc)[j]? = some u → w.cell? (Addr.add ⟨b, off, none⟩ j) = some u := fun j u hj => by
  have hlt : j < l.length * z := by have := (List.getElem?_eq_some_iff.1 hj).1; rwa [flat_len enc z hz] at this
  have hi : j / z < l.length := (Nat.div_lt_iff_lt_mul h0).2 hlt
  have hm : j % z < z := Nat.mod_lt _ h0
  have e : j / z * z + j % z = j := Nat.div_add_mod' j z
  have hf := flat_get enc z hz l (j / z) l[j / z] (List.getElem?_eq_getElem hi) (j % z) hm
  rw [e, hj] at hf
  have := h (j / z) _ (List.getElem?_eq_getElem hi) (j % z) u hf.symm
  have ea : Addr.add ⟨b, off, none⟩ j = ⟨b, off + j, none⟩ := by
    unfold Addr.add
    split
    · rename_i h; subst h; rfl
    · rfl
  rw [ea]
  rwa [Nat.add_assoc, e] at this
theorem tcs_one (l : List T3) : ∀ u ∈ l.flatMap tc, u.oneCell' = true := fun u hu => by
  obtain ⟨x, _, hx⟩ := List.mem_flatMap.1 hu
  exact tc_one x u hx
theorem run_append_T (w : World) (ty : TypeId) (base : Nat) (v : Value) (n : Nat) (xs : List Value) (ao : Option Addr) (c : Nat) (l : List T3) (hown : w.ownsRow base 77 3 v n xs) (h : RowsO 3 tc w ao l) (hb : base ≤ w.heap.size) (hn : n + l.length ≤ 1000000) :
    ∃ v' w', (Builtin.append_ #[67, 67] ty #[v, .slice ao l.length c]).run Try.prog w = .ok v' w' ∧ w'.ownsRow base 77 3 v' (n + l.length) (xs ++ l.flatMap tc) ∧ w.grownBy w' v.ownBlock := by
  obtain ⟨i0, hi, hz0, hz1, hz2⟩ := info_parts info3T
  have some_ : ∀ a : Addr, (∀ j u, (l.flatMap tc)[j]? = some u → w.cell? (a.add j) = some u) → ∃ v' w', (Builtin.append_ #[67, 67] ty #[v, .slice (some a) l.length c]).run Try.prog w = .ok v' w' ∧ w'.ownsRow base 77 3 v' (n + l.length) (xs ++ l.flatMap tc) ∧ w.grownBy w' v.ownBlock := fun a hat => by
    obtain ⟨v', w', h1, h2, h3, -⟩ := run_append_own w base 67 ty 77 i0 _ 3 56 Try.underlying67 hi hz0 hz1 hz2 rfl (by decide) v n xs hown a l.length c (l.flatMap tc) (flat_len tc 3 tc_len l) hat (tcs_one l) (by unfold maxLen; omega) (by omega) hb
    exact ⟨v', w', h1, h2, h3⟩
  rcases h with rfl | ⟨b, off, rfl, h⟩
  · cases ao with
    | none => exact ⟨v, w, run_append_none_cap base _ ty _ i0 3 c Try.underlying67 hi v n xs hown, by simpa using hown, ⟨rfl, rfl, rfl, Nat.le_refl _, fun _ _ _ => rfl⟩⟩
    | some a => exact some_ a (fun j u hj => by simp at hj)
  · exact some_ _ (rows_at tc_len (by decide) h)

set_option maxHeartbeats 1600000 in
theorem growT_nil (n : Nat) (w : World) (h0 : 0 < n) (h : n ≤ 100000) : Calls Try.prog 72 #[.slice none 0 0, .int .i64 (n : Int)] w fun e w' => ∃ v, e = .returned v ∧ w'.ownsRow w.heap.size 77 3 v 0 [] ∧ Below w.heap.size w w' := by
  obtain ⟨i0, hi, hz0, hz1, hz2⟩ := info_parts info3T
  have hold : (Builtin.firstCells i0.size 0 (.slice none 0 0)).run Try.prog w.drew = .ok (([] : List Value)).toArray w.drew := by simp [Builtin.firstCells]
  have hrz : ∀ ty, (Builtin.append_ #[67, 3] ty #[.slice none 0 0, .int .i64 (n : Int)]).run Try.prog w = .ok (.slice (some ⟨w.heap.size, 0, none⟩) n (grownCap w n 0 77)) (w.drew.alloc (.cells (([] : List Value).toArray ++ Builtin.zeroCells (Value.agg #[.int .i64 0, .slice none 0 0, .slice none 0 0]).cells n ++ Builtin.zeroCells (Value.agg #[.int .i64 0, .slice none 0 0, .slice none 0 0]).cells (grownCap w n 0 77 - n)) 77)) := fun ty => by
    have hfit : Builtin.nextslicecap n 0 * i0.bytes ≤ 281474976710656 := growslice_fits (by omega) (by rw [hz2]; omega)
    have := Lib.run_append_grow_zeros w 67 3 ty 77 i0 _ .i64 .i64 Try.underlying67 Try.underlying3 hi hz0 none 0 0 [] hold n h0 (by rw [hz1]; decide) (by omega) (by omega) (by rw [hz2]; omega) (by rw [Nat.zero_add]; exact hfit)
    rw [Nat.zero_add] at this
    exact this
  have hGn : n ≤ grownCap w n 0 77 := grownCap_ge w _ _ _
  have hGm : grownCap w n 0 77 ≤ maxLen := grownCap_le_maxLen w n 0 77 (by unfold maxLen; omega)
  have zc : ∀ k, (Builtin.zeroCells (Value.agg #[.int .i64 0, .slice none 0 0, .slice none 0 0]).cells k).size = k * 3 := fun k => by simp [Builtin.zeroCells, Value.cells]
  generalize grownCap w n 0 77 = G at *
  have hsz : (([] : List Value).toArray ++ Builtin.zeroCells (Value.agg #[.int .i64 0, .slice none 0 0, .slice none 0 0]).cells n ++ Builtin.zeroCells (Value.agg #[.int .i64 0, .slice none 0 0, .slice none 0 0]).cells (G - n)).size = G * 3 := by
    rw [Array.size_append, Array.size_append, zc, zc]
    simp
    omega
  generalize (([] : List Value).toArray ++ Builtin.zeroCells (Value.agg #[.int .i64 0, .slice none 0 0, .slice none 0 0]).cells n ++ Builtin.zeroCells (Value.agg #[.int .i64 0, .slice none 0 0, .slice none 0 0]).cells (G - n)) = CS at *
  have own := World.ownsRow_made (base := w.heap.size) (e := 77) (size := 3) w.drew CS G (by simp) hGm hsz
  have hpos : (0 : Int) < (n : Int) := by omega
  have HO := Lib.hid own
  have hG63 : G ≤ 9223372036854775807 := by unfold maxLen at hGm; omega
  clear hold hsz own hGm zc
  go_enter Try.func72, Try.ntmps72
  go_wp2_with (at_builtin; refine Lib.wpList_append_run _ rfl _ _ _ _ rfl _ _ rfl rfl _ _ (hrz _) ?_)
  go_ret
  exact ⟨_, rfl, HO.out, by repeat (first | (with_reducible exact Below.refl _ _) | (with_reducible refine Below.setCell ?_ ?_ _) | (with_reducible refine Below.drew ?_) | (with_reducible refine Below.alloc ?_ ?_ _) | omega | (simp <;> omega))⟩
theorem growT_zero (w : World) : Calls Try.prog 72 #[.slice none 0 0, .int .i64 0] w fun e w' => e = .returned (.slice none 0 0) ∧ Below w.heap.size w w' := by
  go_enter Try.func72, Try.ntmps72
  go_wp2
  go_ret
  exact ⟨rfl, by repeat (first | (with_reducible exact Below.refl _ _) | (with_reducible refine Below.setCell ?_ ?_ _) | (with_reducible refine Below.drew ?_) | (with_reducible refine Below.alloc ?_ ?_ _) | omega | (simp <;> omega))⟩
theorem growT_any (n : Nat) (w : World) (h : n ≤ 100000) : Calls Try.prog 72 #[.slice none 0 0, .int .i64 (n : Int)] w fun e w' => ∃ v, e = .returned v ∧ w'.ownsRow w.heap.size 77 3 v 0 [] ∧ Below w.heap.size w w' := by
  by_cases h0 : 0 < n
  · exact growT_nil n w h0 h
  · obtain rfl : n = 0 := by omega
    exact (growT_zero w).mono fun e w' ⟨he, hb⟩ => ⟨_, he, World.ownsRow_nil _ _ _ _, hb⟩

set_option maxHeartbeats 3200000 in
theorem concatT_any (B g : Nat) (a1 a2 : Option Addr) (c1 c2 : Nat) (l m : List T3) (w : World) (g0 : w.cell? ⟨g, 0, none⟩ = some (.slice a1 l.length c1)) (g1 : w.cell? ⟨g, 1, none⟩ = some (.slice a2 m.length c2)) (h1 : Tr3 w B a1 l) (h2 : Tr3 w B a2 m) (hB : B ≤ w.heap.size) (n1 : l.length ≤ 10000) (n2 : m.length ≤ 10000) :
    Calls Try.prog 49 #[.slice (some ⟨g, 0, none⟩) 2 2] w fun e w' => ∃ ao c, e = .returned (.slice ao (l ++ m).length c) ∧ Tr3 w' B ao (l ++ m) ∧ Below w.heap.size w w' := by
  have cG : ∀ W : World, Calls Try.prog 72 #[.slice none 0 0, .int .i64 ((l.length : Int) + (m.length : Int))] W fun e w' => ∃ v, e = .returned v ∧ w'.ownsRow W.heap.size 77 3 v 0 [] ∧ Below W.heap.size W w' := fun W => by
    have := growT_any (l.length + m.length) W (by omega)
    rwa [Int.natCast_add] at this
  have H1 := Lib.hid h1
  have H2 := Lib.hid h2
  have gl : g < w.heap.size := World.block_lt_of_cell? w _ g0
  have p1 : (0 : Int) ≤ (l.length : Int) := by omega
  have p2 : (0 : Int) ≤ (m.length : Int) := by omega
  have q1 : (l.length : Int) ≤ 100000 := by omega
  have q2 : (m.length : Int) ≤ 100000 := by omega
  have hpos : (0 : Int) ≤ (l.length : Int) + (m.length : Int) := by omega
  clear h1 h2
  go_enter Try.func49, Try.ntmps49
  go_wp2
  refine wp_loop_rounds 3 ?_
  rw [rounds_succ]
  go_wp2
  rw [rounds_succ]
  go_wp2
  rw [rounds_succ]
  go_wp2_with ((with_reducible refine (cG _).mono ?_); clear cG; rintro e w2 ⟨v0, rfl, hown, hw2⟩)
  have hs2 := hw2.size
  have e0 := (hw2.cell (p := ⟨g, 0, none⟩) gl).trans g0
  have e1 := (hw2.cell (p := ⟨g, 1, none⟩) gl).trans g1
  obtain ⟨v1, X1, hr1, own1, gr1⟩ := run_append_T w2 67 w.heap.size v0 0 [] a1 c1 l hown (H1.out.later hw2).r.o hs2 (by omega)
  have b1 : Below w.heap.size w X1 := hw2.grown gr1 hs2 (fun j hj => (hown.lt j hj).1)
  obtain ⟨v2, X2, hr2, own2, gr2⟩ := run_append_T X1 67 w.heap.size v1 (0 + l.length) ([] ++ l.flatMap tc) a2 c2 m own1 (H2.out.later b1).r.o b1.size (by omega)
  have b2 : Below w.heap.size w X2 := b1.grown gr2 b1.size (fun j hj => (own1.lt j hj).1)
  have k1 := (b1.cell (p := ⟨g, 1, none⟩) gl).trans g1
  rw [Nat.zero_add, List.nil_append, ← List.flatMap_append, ← List.length_append] at own2
  obtain ⟨ao, c, rfl, hL, -⟩ := owned_rowsN tc_len own2
  have hT : T3N X2 B (l ++ m) := fun e he => by
    rcases List.mem_append.1 he with h | h
    · exact (H1.out.later b2).p e h
    · exact (H2.out.later b2).p e h
  have HL := Lib.hid (Tr3.mk (hL.le hB) hT)
  clear hL hT own2 own1 hown gr1 gr2 b1 hw2 g0 g1 hs2 H1 H2
  refine wp_loop_rounds 3 ?_
  rw [rounds_succ]
  go_wp2_with (at_builtin; refine Lib.wpList_append_run_sl _ rfl (.tmp 31) (.tmp 32) 67 rfl _ _ rfl rfl hr1 ?_)
  rw [rounds_succ]
  go_wp2_with (at_builtin; refine Lib.wpList_append_run_sl _ rfl (.tmp 31) (.tmp 32) 67 rfl _ _ rfl rfl hr2 ?_)
  rw [rounds_succ]
  go_wp2
  go_ret
  exact ⟨ao, c, by simp, HL.out, b2⟩
end Go.Proofs.Ytjidbajcnomceaa
