/- Fields that are compared, and fields that are made: the cold one and those of given numbers, as the program and the document's answers make them.
Conditions: the list lies in memory as it is written at each theorem. -/
import Derived.Test.YtilbhcjnkmeecaaGreatFieldC
import Derived.Test.YtilbhcjnkmeecaaGreatKnown2
import Derived.Test.YtilbhcjnkmeecaaGreatEqU
namespace Go.Proofs.YtilbhcjnkmeecaaGreat
set_option linter.unusedVariables false
set_option linter.unusedSimpArgs false
set_option maxRecDepth 1000000
open Go.RowKit
open Um Tm

set_option maxHeartbeats 1600000 in
theorem sameF_some (a b c : Int) (b1 o1 c1 b2 o2 c2 : Nat) (L : List Q) (w : World) (h1 : Lies w b1 o1 L) (h2 : Lies w b2 o2 L) (hlen : L.length ≤ 1000000) :
    Calls Tryz.prog 17 #[.agg #[.int .i64 a, .int .i64 b, .int .i64 c, .slice (some ⟨b1, o1, none⟩) L.length c1], .agg #[.int .i64 a, .int .i64 b, .int .i64 c, .slice (some ⟨b2, o2, none⟩) L.length c2]] w fun e w' => e = .returned (.bool true) ∧ Below w.heap.size w w' := by
  have H1 := Lib.hid h1
  have H2 := Lib.hid h2
  have qa := eqA3 a b c
  have kc := @Tail.cell_re
  have kc1 : ∀ (W : World) (o : Obj) (d : Nat) (os : Array Obj) (a : Addr), a.block ≤ W.heap.size → (Sort.grow (redrawn (W.alloc o) d) os).cell? a = (W.alloc o).cell? a := fun W o d os a h => Tail.cell_re (W.alloc o) d os a (Nat.lt_of_le_of_lt h (by simp))
  clear h1 h2
  go_enter Tryz.func17, Tryz.ntmps17
  go_wp2
  go_loopw [5] (fun q wr => ∃ k : Nat, k ≤ L.length ∧ q = .int .i64 k ∧ FBox wr w.heap.size a b c (.slice (some ⟨b1, o1, none⟩) L.length c1) ∧ FBox wr (w.heap.size + 1) a b c (.slice (some ⟨b2, o2, none⟩) L.length c2) ∧ Below w.heap.size w wr) (fun q _ => L.length - (intOf q).toNat)
  case atStart => exact ⟨0, by omega, rfl, ⟨by simp [go_sem], by simp [go_sem], by simp [go_sem], by simp [go_sem], by simp; omega⟩, ⟨by simp [go_sem], by simp [go_sem], by simp [go_sem], by simp [go_sem], by simp⟩, by repeat (first | (with_reducible exact Below.refl _ _) | (with_reducible refine Below.setCell ?_ ?_ _) | (with_reducible refine Below.drew ?_) | (with_reducible refine Below.alloc ?_ ?_ _) | omega | (simp <;> omega))⟩
  case round =>
    obtain ⟨k, hk, rfl, fb1, fb2, hb⟩ := hrel
    have F1 := Lib.hid fb1
    have F2 := Lib.hid fb2
    obtain ⟨f0, f1, f2, f3, fl⟩ := fb1
    obtain ⟨g0, g1, g2, g3, gl⟩ := fb2
    by_cases hlt : k < L.length
    · obtain ⟨l0, l1, l2, l3, l4⟩ := H1.out.later hb k _ (List.getElem?_eq_getElem hlt)
      obtain ⟨m0, m1, m2, m3, m4⟩ := H2.out.later hb k _ (List.getElem?_eq_getElem hlt)
      have lb1 : b1 < wr.heap.size := World.block_lt_of_cell? wr _ l0
      have lb2 : b2 < wr.heap.size := World.block_lt_of_cell? wr _ m0
      generalize L[k] = x at *
      have qx : ∀ W, Sem.run Tryz.prog (Op.equalIn 10000 40 (.agg #[.int .i64 x.a, .int .i64 x.b, .int .i64 x.c, .int .i64 x.d, .int .i64 x.n]) (.agg #[.int .i64 x.a, .int .i64 x.b, .int .i64 x.c, .int .i64 x.d, .int .i64 x.n])) W = .ok true W := fun W => by simpa using eqU x x W
      have i1 : (k : Int) < (L.length : Int) := by omega
      have hbs := hb.size
      go_wp2
      refine Tail.region_below (by kernel_rfl) (by kernel_rfl) ?_
      repeat (go_big_quiet_step (fail))
      refine wpQuiet_nil ?_
      intro w1 hw1
      have F1' := F1.out.later hw1
      have F2' := F2.out.later hw1
      clear f0 f1 f2 f3 fl g0 g1 g2 g3 gl l0 l1 l2 l3 l4 m0 m1 m2 m3 m4
      go_wp2
      exact ⟨⟨k + 1, by omega, by go_num, F1', F2', by repeat (first | (with_reducible exact Below.refl _ _) | (with_reducible refine Below.setCell ?_ ?_ _) | (with_reducible refine Below.drew ?_) | (with_reducible refine Below.alloc ?_ ?_ _) | (with_reducible refine Below.trans ?_ (Below.mono hw1 ?_)) | (with_reducible refine Below.trans ?_ (Below.mono hb ?_)) | (with_reducible exact hw1.size) | (with_reducible exact hb.size) | omega | (simp <;> omega) | (simp <;> (have s := hw1.size; omega)) | (simp <;> (have s := hb.size; omega)) | (have s0 := hw1.size; (try simp at s0); have s1 := hb.size; (try simp at s1); (try simp); omega))⟩, by simp [intOf]; omega⟩
    · obtain rfl : k = L.length := by omega
      go_wp2
      go_ret
      exact ⟨rfl, hb⟩

set_option maxHeartbeats 800000 in
theorem sameF_nil (a b c : Int) (a1 a2 : Option Addr) (c1 c2 : Nat) (w : World) :
    Calls Tryz.prog 17 #[.agg #[.int .i64 a, .int .i64 b, .int .i64 c, .slice a1 0 c1], .agg #[.int .i64 a, .int .i64 b, .int .i64 c, .slice a2 0 c2]] w fun e w' => e = .returned (.bool true) ∧ Below w.heap.size w w' := by
  have qa := eqA3 a b c
  go_enter Tryz.func17, Tryz.ntmps17
  go_wp2
  refine wp_loop_rounds 1 ?_
  rw [rounds_succ]
  go_wp2
  go_ret
  exact ⟨rfl, by repeat (first | (with_reducible exact Below.refl _ _) | (with_reducible refine Below.setCell ?_ ?_ _) | (with_reducible refine Below.drew ?_) | (with_reducible refine Below.alloc ?_ ?_ _) | omega | (simp <;> omega))⟩

set_option maxHeartbeats 800000 in
theorem fromNumbers_bad (a b c : Int) (ao : Option Addr) (n cap : Nat) (w : World) (hz : ¬ Sz a b c) : Calls Tryz.prog 66 #[.agg #[.int .i64 a, .int .i64 b, .int .i64 c], .slice ao n cap] w fun e w' => e = .returned (.tuple #[.agg #[.int .i64 0, .int .i64 0, .int .i64 0, .slice none 0 0], .int .i64 1]) ∧ Below w.heap.size w w' := by
  have c1 := fun W : World => sizes_any a b c 1 W (.inr ⟨hz, rfl⟩)
  clear hz
  go_enter Tryz.func66, Tryz.ntmps66
  go_wp2_with ((with_reducible refine (c1 _).mono ?_); rintro e w1 ⟨rfl, hw1⟩; have hc := Tail.cells hw1; have zw10 := Nat.lt_of_lt_of_le (n := w.heap.size) (by simp <;> omega) hw1.size; have zw11 := Nat.lt_of_lt_of_le (n := w.heap.size + 1) (by simp <;> omega) hw1.size)
  refine bodyPost_ret (v := .tuple #[.agg #[.int .i64 0, .int .i64 0, .int .i64 0, .slice none 0 0], .int .i64 1]) ?_ rfl ⟨rfl, ?_⟩
  · simp [results, Tryz.results66, go_sem, hc, zw10, zw11]
  · repeat (first | (with_reducible exact Below.refl _ _) | (with_reducible refine Below.setCell ?_ ?_ _) | (with_reducible refine Below.drew ?_) | (with_reducible refine Below.alloc ?_ ?_ _) | (with_reducible refine Below.trans ?_ (Below.mono hw1 ?_)) | (with_reducible exact hw1.size) | omega | (simp <;> omega) | (simp <;> (have s := hw1.size; omega)) | (have s0 := hw1.size; (try simp at s0); (try simp); omega))
end Go.Proofs.YtilbhcjnkmeecaaGreat
