/- Lists of units and fields that are compared by the document's answers of layer 4.
Conditions: the lists lie in memory as it is written at each theorem. -/
import Derived.Test.YtpfhjdmgkckjfaaGreatDoorPFieldC
import Derived.Test.YtpfhjdmgkckjfaaGreatDoorPThrM
import Derived.Test.YtpfhjdmgkckjfaaGreatDoorPDist
namespace Go.Proofs.YtpfhjdmgkckjfaaGreatDoor
set_option linter.unusedVariables false
set_option linter.unusedSimpArgs false
set_option maxRecDepth 1000000
open Go.RowKit
open Um Tm

set_option maxHeartbeats 1600000 in
theorem sameU4_some (b1 o1 c1 b2 o2 c2 : Nat) (L : List Q) (w : World) (h1 : Lies w b1 o1 L) (h2 : Lies w b2 o2 L) (hlen : L.length ≤ 1000000) :
    Calls Tryz.prog 54 #[.slice (some ⟨b1, o1, none⟩) L.length c1, .slice (some ⟨b2, o2, none⟩) L.length c2] w fun e w' => e = .returned (.bool true) ∧ Below w.heap.size w w' := by
  have H1 := Lib.hid h1
  have H2 := Lib.hid h2
  have kc := @Tail.cell_re; have kc1 : ∀ (W : World) (o : Obj) (d : Nat) (os : Array Obj) (a : Addr), a.block ≤ W.heap.size → (Sort.grow (redrawn (W.alloc o) d) os).cell? a = (W.alloc o).cell? a := fun W o d os a h => Tail.cell_re (W.alloc o) d os a (Nat.lt_of_le_of_lt h (by simp))
  clear h1 h2
  go_enter Tryz.func54, Tryz.ntmps54
  go_wp2
  go_loopw [5] (fun q wr => ∃ k : Nat, k ≤ L.length ∧ q = .int .i64 k ∧ Below w.heap.size w wr) (fun q _ => L.length - (intOf q).toNat)
  case atStart => exact ⟨0, by omega, rfl, by repeat (first | (with_reducible exact Below.refl _ _) | (with_reducible refine Below.setCell ?_ ?_ _) | (with_reducible refine Below.drew ?_) | (with_reducible refine Below.alloc ?_ ?_ _) | omega | (simp <;> omega))⟩
  case round =>
    obtain ⟨k, hk, rfl, hb⟩ := hrel
    by_cases hlt : k < L.length
    · obtain ⟨l0, l1, l2, l3, l4⟩ := H1.out.later hb k _ (List.getElem?_eq_getElem hlt)
      obtain ⟨m0, m1, m2, m3, m4⟩ := H2.out.later hb k _ (List.getElem?_eq_getElem hlt)
      have lb1 : b1 < wr.heap.size := World.block_lt_of_cell? wr _ l0
      have lb2 : b2 < wr.heap.size := World.block_lt_of_cell? wr _ m0
      generalize L[k] = x at *
      have qx : ∀ W, Sem.run Tryz.prog (Op.equalIn 10000 73 (.agg #[.int .i64 x.a, .int .i64 x.b, .int .i64 x.c, .int .i64 x.d, .int .i64 x.n]) (.agg #[.int .i64 x.a, .int .i64 x.b, .int .i64 x.c, .int .i64 x.d, .int .i64 x.n])) W = .ok true W := fun W => by simpa using eqU x x W
      have i1 : (k : Int) < (L.length : Int) := by omega
      have hbs := hb.size
      go_wp2
      refine Tail.region_below (by kernel_rfl) (by kernel_rfl) ?_
      repeat (go_big_quiet_step (fail))
      refine wpQuiet_nil ?_
      intro w1 hw1
      clear l0 l1 l2 l3 l4 m0 m1 m2 m3 m4
      go_wp2
      exact ⟨⟨k + 1, by omega, by go_num, by repeat (first | (with_reducible exact Below.refl _ _) | (with_reducible refine Below.setCell ?_ ?_ _) | (with_reducible refine Below.drew ?_) | (with_reducible refine Below.alloc ?_ ?_ _) | (with_reducible refine Below.trans ?_ (Below.mono hw1 ?_)) | (with_reducible refine Below.trans ?_ (Below.mono hb ?_)) | (with_reducible exact hw1.size) | (with_reducible exact hb.size) | omega | (simp <;> omega) | (simp <;> (have s := hw1.size; omega)) | (simp <;> (have s := hb.size; omega)) | (have s0 := hw1.size; (try simp at s0); have s1 := hb.size; (try simp at s1); (try simp); omega))⟩, by simp [intOf]; omega⟩
    · obtain rfl : k = L.length := by omega
      go_wp2
      go_ret
      exact ⟨rfl, hb⟩
set_option maxHeartbeats 800000 in
theorem sameU4_nil (a1 a2 : Option Addr) (c1 c2 : Nat) (w : World) :
    Calls Tryz.prog 54 #[.slice a1 0 c1, .slice a2 0 c2] w fun e w' => e = .returned (.bool true) ∧ Below w.heap.size w w' := by
  go_enter Tryz.func54, Tryz.ntmps54
  go_wp2
  refine wp_loop_rounds 1 ?_
  rw [rounds_succ]
  go_wp2
  go_ret
  exact ⟨rfl, by repeat (first | (with_reducible exact Below.refl _ _) | (with_reducible refine Below.setCell ?_ ?_ _) | (with_reducible refine Below.drew ?_) | (with_reducible refine Below.alloc ?_ ?_ _) | omega | (simp <;> omega))⟩
theorem sameU4_any (a1 a2 : Option Addr) (c1 c2 : Nat) (L : List Q) (w : World) (h1 : LiesO w a1 L) (h2 : LiesO w a2 L) (hlen : L.length ≤ 1000000) :
    Calls Tryz.prog 54 #[.slice a1 L.length c1, .slice a2 L.length c2] w fun e w' => e = .returned (.bool true) ∧ Below w.heap.size w w' := by
  rcases h1 with rfl | ⟨b1, o1, rfl, h1⟩
  · exact sameU4_nil a1 a2 c1 c2 w
  · rcases h2 with rfl | ⟨b2, o2, rfl, h2⟩
    · exact sameU4_nil _ a2 c1 c2 w
    · exact sameU4_some b1 o1 c1 b2 o2 c2 L w h1 h2 hlen
set_option maxHeartbeats 1600000 in
theorem sameF4_any (a b c : Int) (a1 a2 : Option Addr) (c1 c2 : Nat) (L : List Q) (w : World) (h1 : LiesO w a1 L) (h2 : LiesO w a2 L) (hlen : L.length ≤ 1000000) :
    Calls Tryz.prog 20 #[.agg #[.int .i64 a, .int .i64 b, .int .i64 c, .slice a1 L.length c1], .agg #[.int .i64 a, .int .i64 b, .int .i64 c, .slice a2 L.length c2]] w fun e w' => e = .returned (.bool true) ∧ Below w.heap.size w w' := by
  have qa := eqA3 a b c
  have H1 := Lib.hid h1
  have H2 := Lib.hid h2
  have c3 := fun (W : World) (hb : Below w.heap.size w W) => sameU4_any a1 a2 c1 c2 L W (h1.later hb) (h2.later hb) hlen
  have hB : Below w.heap.size w ((w.alloc (.cells #[.int .i64 a, .int .i64 b, .int .i64 c, .slice a1 L.length c1] 25)).alloc (.cells #[.int .i64 a, .int .i64 b, .int .i64 c, .slice a2 L.length c2] 25)) := by repeat (first | (with_reducible exact Below.refl _ _) | (with_reducible refine Below.setCell ?_ ?_ _) | (with_reducible refine Below.drew ?_) | (with_reducible refine Below.alloc ?_ ?_ _) | omega | (simp <;> omega))
  have c4 := c3 _ hB
  clear h1 h2 c3
  go_enter Tryz.func20, Tryz.ntmps20
  go_wp2_with ((with_reducible refine c4.mono ?_); rintro e w1 ⟨rfl, hw1⟩)
  go_ret
  exact ⟨rfl, by repeat (first | (with_reducible exact Below.refl _ _) | (with_reducible refine Below.setCell ?_ ?_ _) | (with_reducible refine Below.drew ?_) | (with_reducible refine Below.alloc ?_ ?_ _) | (with_reducible refine Below.trans ?_ (Below.mono hw1 ?_)) | (with_reducible refine Below.trans ?_ (Below.mono hB ?_)) | (with_reducible exact hw1.size) | (with_reducible exact hB.size) | omega | (simp <;> omega) | (simp <;> (have s := hw1.size; omega)) | (simp <;> (have s := hB.size; omega)) | (have s0 := hw1.size; (try simp at s0); have s1 := hB.size; (try simp at s1); (try simp); omega))⟩
end Go.Proofs.YtpfhjdmgkckjfaaGreatDoor
