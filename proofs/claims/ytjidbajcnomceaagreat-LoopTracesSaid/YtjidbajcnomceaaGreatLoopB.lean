/- Lists of numbers one behind the other, in new memory, as slices.Concat makes them.
Conditions: those written at each theorem. -/
import Derived.Test.YtjidbajcnomceaaGreatLoopA
import Derived.Lib.AppendZerosOnto
import Derived.Lib.SlFresh
namespace Go.Proofs.YtjidbajcnomceaaGreat
set_option linter.unusedVariables false
set_option linter.unusedSimpArgs false
set_option maxRecDepth 1000000
open Go.RowKit
open Um Tm

theorem run_append_none_cap {P : Program} {w : World} (base : Nat) (t ty e : TypeId) (i : TypeInfo) (size c : Nat) (ht : P.underlying t = some (.slice e)) (hi : P.info? e = some i)
    (v : Value) (n : Nat) (xs : List Value) (hown : w.ownsRow base e size v n xs) :
    (Builtin.append_ #[t, t] ty #[v, .slice none 0 c]).run P w = .ok v w := by
  rcases hown.2 with ⟨rfl, rfl⟩ | ⟨g, cap, cur, rfl, _, _, hnc, _⟩
  · simp [Builtin.append_, run_underlying ht, sizeOf, typeInfo, hi, Builtin.lenOf, Builtin.firstCells]
  · simp [Builtin.append_, run_underlying ht, sizeOf, typeInfo, hi, Builtin.lenOf, Builtin.firstCells, hnc, storeCells]

theorem ints_at {w : World} {b off : Nat} {l : List Int} (h : LiesI w b off l) : ∀ j u, (l.map vi)[j]? = some u → w.cell? (Addr.add ⟨b, off, none⟩ j) = some u := fun j u hj => by
  rw [List.getElem?_map] at hj
  cases hx : l[j]? with
  | none => rw [hx] at hj; cases hj
  | some x =>
    rw [hx] at hj
    cases hj
    have ea : Addr.add ⟨b, off, none⟩ j = ⟨b, off + j, none⟩ := by
      unfold Addr.add
      split
      · rename_i h; subst h; rfl
      · rfl
    rw [ea]
    exact h j x hx
theorem ints_one (l : List Int) : ∀ u ∈ l.map vi, u.oneCell' = true := fun u hu => by
  obtain ⟨x, _, rfl⟩ := List.mem_map.1 hu
  rfl

/-- a list of numbers, wherever it lies, is appended to one of the call's own -/
theorem run_append_ints (w : World) (ty : TypeId) (base : Nat) (v : Value) (n : Nat) (xs : List Value) (ao : Option Addr) (c : Nat) (l : List Int) (hown : w.ownsRow base 3 1 v n xs) (h : LiesOI w ao l) (hb : base ≤ w.heap.size) (hn : n + l.length ≤ 1000000) :
    ∃ v' w', (Builtin.append_ #[26, 26] ty #[v, .slice ao l.length c]).run Tryz.prog w = .ok v' w' ∧ w'.ownsRow base 3 1 v' (n + l.length) (xs ++ l.map vi) ∧ w.grownBy w' v.ownBlock := by
  obtain ⟨i0, hi, hz0, hz1, hz2⟩ := info_parts infoI
  have some_ : ∀ a : Addr, (∀ j u, (l.map vi)[j]? = some u → w.cell? (a.add j) = some u) → ∃ v' w', (Builtin.append_ #[26, 26] ty #[v, .slice (some a) l.length c]).run Tryz.prog w = .ok v' w' ∧ w'.ownsRow base 3 1 v' (n + l.length) (xs ++ l.map vi) ∧ w.grownBy w' v.ownBlock := fun a hat => by
    obtain ⟨v', w', h1, h2, h3, -⟩ := run_append_own w base 26 ty 3 i0 _ 1 8 Tryz.underlying26 hi hz0 hz1 hz2 rfl (by decide) v n xs hown a l.length c (l.map vi) (by simp) hat (ints_one l) (by unfold maxLen; omega) (by omega) hb
    exact ⟨v', w', h1, h2, h3⟩
  rcases h with rfl | ⟨b, off, rfl, h⟩
  · cases ao with
    | none => exact ⟨v, w, run_append_none_cap base _ ty _ i0 1 c Tryz.underlying26 hi v n xs hown, by simpa using hown, ⟨rfl, rfl, rfl, Nat.le_refl _, fun _ _ _ => rfl⟩⟩
    | some a => exact some_ a (fun j u hj => by simp at hj)
  · exact some_ _ (ints_at h)

set_option maxHeartbeats 1600000 in
theorem growI_nil (n : Nat) (w : World) (h0 : 0 < n) (h : n ≤ 1000000) : Calls Tryz.prog 72 #[.slice none 0 0, .int .i64 (n : Int)] w fun e w' => ∃ v, e = .returned v ∧ w'.ownsRow w.heap.size 3 1 v 0 [] ∧ Below w.heap.size w w' := by
  obtain ⟨i0, hi, hz0, hz1, hz2⟩ := info_parts infoI
  have hold : (Builtin.firstCells i0.size 0 (.slice none 0 0)).run Tryz.prog w.drew = .ok (([] : List Value)).toArray w.drew := by simp [Builtin.firstCells]
  have hrz : ∀ ty, (Builtin.append_ #[26, 3] ty #[.slice none 0 0, .int .i64 (n : Int)]).run Tryz.prog w = .ok (.slice (some ⟨w.heap.size, 0, none⟩) n (grownCap w n 0 3)) (w.drew.alloc (.cells (([] : List Value).toArray ++ Builtin.zeroCells (Value.int .i64 0).cells n ++ Builtin.zeroCells (Value.int .i64 0).cells (grownCap w n 0 3 - n)) 3)) := fun ty => by
    have hfit : Builtin.nextslicecap n 0 * i0.bytes ≤ 281474976710656 := growslice_fits (by omega) (by rw [hz2]; omega)
    have := Lib.run_append_grow_zeros w 26 3 ty 3 i0 _ .i64 .i64 Tryz.underlying26 Tryz.underlying3 hi hz0 none 0 0 [] hold n h0 (by rw [hz1]; decide) (by omega) (by omega) (by rw [hz2]; omega) (by rw [Nat.zero_add]; exact hfit)
    rw [Nat.zero_add] at this
    exact this
  have hGn : n ≤ grownCap w n 0 3 := grownCap_ge w _ _ _
  have hGm : grownCap w n 0 3 ≤ maxLen := grownCap_le_maxLen w n 0 3 (by unfold maxLen; omega)
  have zc : ∀ k, (Builtin.zeroCells (Value.int .i64 0).cells k).size = k := fun k => by simp [Builtin.zeroCells, Value.cells]
  generalize grownCap w n 0 3 = G at *
  have hsz : (([] : List Value).toArray ++ Builtin.zeroCells (Value.int .i64 0).cells n ++ Builtin.zeroCells (Value.int .i64 0).cells (G - n)).size = G * 1 := by
    rw [Array.size_append, Array.size_append, zc, zc]
    simp
    omega
  generalize (([] : List Value).toArray ++ Builtin.zeroCells (Value.int .i64 0).cells n ++ Builtin.zeroCells (Value.int .i64 0).cells (G - n)) = CS at *
  have own := World.ownsRow_made (base := w.heap.size) (e := 3) (size := 1) w.drew CS G (by simp) hGm hsz
  have hpos : (0 : Int) < (n : Int) := by omega
  have HO := Lib.hid own
  have hG63 : G ≤ 9223372036854775807 := by unfold maxLen at hGm; omega
  clear hold hsz own hGm zc
  go_enter Tryz.func72, Tryz.ntmps72
  go_wp2_with (at_builtin; refine Lib.wpList_append_run _ rfl _ _ _ _ rfl _ _ rfl rfl _ _ (hrz _) ?_)
  go_ret
  exact ⟨_, rfl, HO.out, by repeat (first | (with_reducible exact Below.refl _ _) | (with_reducible refine Below.setCell ?_ ?_ _) | (with_reducible refine Below.drew ?_) | (with_reducible refine Below.alloc ?_ ?_ _) | omega | (simp <;> omega))⟩
theorem growI_zero (w : World) : Calls Tryz.prog 72 #[.slice none 0 0, .int .i64 0] w fun e w' => e = .returned (.slice none 0 0) ∧ Below w.heap.size w w' := by
  go_enter Tryz.func72, Tryz.ntmps72
  go_wp2
  go_ret
  exact ⟨rfl, by repeat (first | (with_reducible exact Below.refl _ _) | (with_reducible refine Below.setCell ?_ ?_ _) | (with_reducible refine Below.drew ?_) | (with_reducible refine Below.alloc ?_ ?_ _) | omega | (simp <;> omega))⟩
theorem growI_any (n : Nat) (w : World) (h : n ≤ 1000000) : Calls Tryz.prog 72 #[.slice none 0 0, .int .i64 (n : Int)] w fun e w' => ∃ v, e = .returned v ∧ w'.ownsRow w.heap.size 3 1 v 0 [] ∧ Below w.heap.size w w' := by
  by_cases h0 : 0 < n
  · exact growI_nil n w h0 h
  · obtain rfl : n = 0 := by omega
    exact (growI_zero w).mono fun e w' ⟨he, hb⟩ => ⟨_, he, World.ownsRow_nil _ _ _ _, hb⟩

set_option maxHeartbeats 3200000 in
theorem concat2_any (g : Nat) (a1 a2 : Option Addr) (c1 c2 : Nat) (l m : List Int) (w : World) (g0 : w.cell? ⟨g, 0, none⟩ = some (.slice a1 l.length c1)) (g1 : w.cell? ⟨g, 1, none⟩ = some (.slice a2 m.length c2)) (h1 : LiesOI w a1 l) (h2 : LiesOI w a2 m) (n1 : l.length ≤ 100000) (n2 : m.length ≤ 100000) :
    Calls Tryz.prog 44 #[.slice (some ⟨g, 0, none⟩) 2 2] w fun e w' => ∃ ao c, e = .returned (.slice ao (l ++ m).length c) ∧ LiesNI w' w.heap.size ao (l ++ m) ∧ (l ++ m).length ≤ c ∧ Below w.heap.size w w' := by
  have cG : ∀ W : World, Calls Tryz.prog 72 #[.slice none 0 0, .int .i64 ((l.length : Int) + (m.length : Int))] W fun e w' => ∃ v, e = .returned v ∧ w'.ownsRow W.heap.size 3 1 v 0 [] ∧ Below W.heap.size W w' := fun W => by
    have := growI_any (l.length + m.length) W (by omega)
    rwa [Int.natCast_add] at this
  have H1 := Lib.hid h1
  have H2 := Lib.hid h2
  have gl : g < w.heap.size := World.block_lt_of_cell? w _ g0
  have p1 : (0 : Int) ≤ (l.length : Int) := by omega
  have p2 : (0 : Int) ≤ (m.length : Int) := by omega
  have q1 : (l.length : Int) ≤ 100000 := by omega
  have q2 : (m.length : Int) ≤ 100000 := by omega
  have hpos : (0 : Int) ≤ (l.length : Int) + (m.length : Int) := by omega
  clear h1 h2
  go_enter Tryz.func44, Tryz.ntmps44
  go_wp2
  refine wp_loop_rounds 3 ?_
  rw [rounds_succ]
  go_wp2
  rw [rounds_succ]
  go_wp2
  rw [rounds_succ]
  go_wp2_with ((with_reducible refine (cG _).mono ?_); clear cG; rintro e w2 ⟨v0, rfl, hown, hw2⟩)
  have hs2 := hw2.size
  have e0 := (hw2.cell (p := ⟨g, 0, none⟩) gl).trans g0
  have e1 := (hw2.cell (p := ⟨g, 1, none⟩) gl).trans g1
  obtain ⟨v1, X1, hr1, own1, gr1⟩ := run_append_ints w2 26 w.heap.size v0 0 [] a1 c1 l hown (H1.out.later hw2) hs2 (by omega)
  have b1 : Below w.heap.size w X1 := hw2.grown gr1 hs2 (fun j hj => (hown.lt j hj).1)
  obtain ⟨v2, X2, hr2, own2, gr2⟩ := run_append_ints X1 26 w.heap.size v1 (0 + l.length) ([] ++ l.map vi) a2 c2 m own1 (H2.out.later b1) b1.size (by omega)
  have b2 : Below w.heap.size w X2 := b1.grown gr2 b1.size (fun j hj => (own1.lt j hj).1)
  have k1 := (b1.cell (p := ⟨g, 1, none⟩) gl).trans g1
  rw [Nat.zero_add, List.nil_append, ← List.map_append, ← List.length_append] at own2
  obtain ⟨ao, c, rfl, hL, hcap⟩ := owned_liesNI own2
  have HL := Lib.hid hL
  clear hL own2 own1 hown gr1 gr2 b1 hw2 g0 g1 hs2 H1 H2
  refine wp_loop_rounds 3 ?_
  rw [rounds_succ]
  go_wp2_with (at_builtin; refine Lib.wpList_append_run_sl _ rfl (.tmp 31) (.tmp 32) 26 rfl _ _ rfl rfl hr1 ?_)
  rw [rounds_succ]
  go_wp2_with (at_builtin; refine Lib.wpList_append_run_sl _ rfl (.tmp 31) (.tmp 32) 26 rfl _ _ rfl rfl hr2 ?_)
  rw [rounds_succ]
  go_wp2
  go_ret
  exact ⟨ao, c, by simp, HL.out, hcap, b2⟩
end Go.Proofs.YtjidbajcnomceaaGreat
