/- Weights, as the document's answers hand them back.
Conditions: those written at each theorem. -/
import Derived.Test.YtpfhjdmgkckjfaaGreatDoorARwsC
import Derived.Test.YtpfhjdmgkckjfaaGreatDoorAAryC
import Derived.Test.YtpfhjdmgkckjfaaGreatDoorAFieldC
import Derived.Test.YtpfhjdmgkckjfaaGreatDoorAThrM
import Derived.Test.YtpfhjdmgkckjfaaGreatDoorADist
import Derived.Test.YtpfhjdmgkckjfaaGreatDoorAChkC
import Derived.Test.YtpfhjdmgkckjfaaGreatDoorAWlkA
import Derived.Test.YtpfhjdmgkckjfaaGreatDoorAThrC
import Derived.Test.YtpfhjdmgkckjfaaGreatDoorASortC
import Derived.Test.YtpfhjdmgkckjfaaGreatDoorASame4
namespace Go.Proofs.YtpfhjdmgkckjfaaGreatDoor
set_option linter.unusedVariables false
set_option linter.unusedSimpArgs false
set_option maxRecDepth 1000000
open Go.RowKit
open Um Tm Cm

end Go.Proofs.YtpfhjdmgkckjfaaGreatDoor

namespace Go.Proofs.YtpfhjdmgkckjfaaGreatDoor
set_option linter.unusedVariables false
set_option linter.unusedSimpArgs false
set_option maxRecDepth 1000000
open Go.RowKit
open Um Tm Cm

/-- a flow and its error -/
def fwR (A : Array Value) (x y r v q : Int) : Prop := (r ≠ 0 ∧ v = 0 ∧ q = r) ∨ (r = 0 ∧ ¬ ((0 ≤ x ∧ x < 24) ∧ 0 ≤ y ∧ y < 24) ∧ v = 0 ∧ q = 1) ∨ (r = 0 ∧ ((0 ≤ x ∧ x < 24) ∧ 0 ≤ y ∧ y < 24) ∧ A[y.toNat]? = some (.int .i64 v) ∧ q = 0)
end Go.Proofs.YtpfhjdmgkckjfaaGreatDoor

namespace Go.Proofs.YtpfhjdmgkckjfaaGreatDoor
set_option linter.unusedVariables false
set_option linter.unusedSimpArgs false
set_option maxRecDepth 1000000
open Go.RowKit
open Um Tm

set_option maxHeartbeats 1600000 in
theorem sameU4_some (b1 o1 c1 b2 o2 c2 : Nat) (L : List Q) (w : World) (h1 : Lies w b1 o1 L) (h2 : Lies w b2 o2 L) (hlen : L.length ≤ 1000000) :
    Calls Tryz.prog 54 #[.slice (some ⟨b1, o1, none⟩) L.length c1, .slice (some ⟨b2, o2, none⟩) L.length c2] w fun e w' => e = .returned (.bool true) ∧ Below w.heap.size w w' := by
  have H1 := Lib.hid h1
  have H2 := Lib.hid h2
  have kc := @Tail.cell_re; have kc1 : ∀ (W : World) (o : Obj) (d : Nat) (os : Array Obj) (a : Addr), a.block ≤ W.heap.size → (Sort.grow (redrawn (W.alloc o) d) os).cell? a = (W.alloc o).cell? a := fun W o d os a h => Tail.cell_re (W.alloc o) d os a (Nat.lt_of_le_of_lt h (by simp))
  clear h1 h2
  go_enter Tryz.func54, Tryz.ntmps54
  go_wp2
  go_loopw [5] (fun q wr => ∃ k : Nat, k ≤ L.length ∧ q = .int .i64 k ∧ Below w.heap.size w wr) (fun q _ => L.length - (intOf q).toNat)
  case atStart => exact ⟨0, by omega, rfl, by repeat (first | (with_reducible exact Below.refl _ _) | (with_reducible refine Below.setCell ?_ ?_ _) | (with_reducible refine Below.drew ?_) | (with_reducible refine Below.alloc ?_ ?_ _) | omega | (simp <;> omega))⟩
  case round =>
    obtain ⟨k, hk, rfl, hb⟩ := hrel
    by_cases hlt : k < L.length
    · obtain ⟨l0, l1, l2, l3, l4⟩ := H1.out.later hb k _ (List.getElem?_eq_getElem hlt)
      obtain ⟨m0, m1, m2, m3, m4⟩ := H2.out.later hb k _ (List.getElem?_eq_getElem hlt)
      have lb1 : b1 < wr.heap.size := World.block_lt_of_cell? wr _ l0
      have lb2 : b2 < wr.heap.size := World.block_lt_of_cell? wr _ m0
      generalize L[k] = x at *
      have qx : ∀ W, Sem.run Tryz.prog (Op.equalIn 10000 73 (.agg #[.int .i64 x.a, .int .i64 x.b, .int .i64 x.c, .int .i64 x.d, .int .i64 x.n]) (.agg #[.int .i64 x.a, .int .i64 x.b, .int .i64 x.c, .int .i64 x.d, .int .i64 x.n])) W = .ok true W := fun W => by simpa using eqU x x W
      have i1 : (k : Int) < (L.length : Int) := by omega
      have hbs := hb.size
      go_wp2
      refine Tail.region_below (by kernel_rfl) (by kernel_rfl) ?_
      repeat (go_big_quiet_step (fail))
      refine wpQuiet_nil ?_
      intro w1 hw1
      clear l0 l1 l2 l3 l4 m0 m1 m2 m3 m4
      go_wp2
      exact ⟨⟨k + 1, by omega, by go_num, by repeat (first | (with_reducible exact Below.refl _ _) | (with_reducible refine Below.setCell ?_ ?_ _) | (with_reducible refine Below.drew ?_) | (with_reducible refine Below.alloc ?_ ?_ _) | (with_reducible refine Below.trans ?_ (Below.mono hw1 ?_)) | (with_reducible refine Below.trans ?_ (Below.mono hb ?_)) | (with_reducible exact hw1.size) | (with_reducible exact hb.size) | omega | (simp <;> omega) | (simp <;> (have s := hw1.size; omega)) | (simp <;> (have s := hb.size; omega)) | (have s0 := hw1.size; (try simp at s0); have s1 := hb.size; (try simp at s1); (try simp); omega))⟩, by simp [intOf]; omega⟩
    · obtain rfl : k = L.length := by omega
      go_wp2
      go_ret
      exact ⟨rfl, hb⟩
set_option maxHeartbeats 800000 in
theorem sameU4_nil (a1 a2 : Option Addr) (c1 c2 : Nat) (w : World) :
    Calls Tryz.prog 54 #[.slice a1 0 c1, .slice a2 0 c2] w fun e w' => e = .returned (.bool true) ∧ Below w.heap.size w w' := by
  go_enter Tryz.func54, Tryz.ntmps54
  go_wp2
  refine wp_loop_rounds 1 ?_
  rw [rounds_succ]
  go_wp2
  go_ret
  exact ⟨rfl, by repeat (first | (with_reducible exact Below.refl _ _) | (with_reducible refine Below.setCell ?_ ?_ _) | (with_reducible refine Below.drew ?_) | (with_reducible refine Below.alloc ?_ ?_ _) | omega | (simp <;> omega))⟩
theorem sameU4_any (a1 a2 : Option Addr) (c1 c2 : Nat) (L : List Q) (w : World) (h1 : LiesO w a1 L) (h2 : LiesO w a2 L) (hlen : L.length ≤ 1000000) :
    Calls Tryz.prog 54 #[.slice a1 L.length c1, .slice a2 L.length c2] w fun e w' => e = .returned (.bool true) ∧ Below w.heap.size w w' := by
  rcases h1 with rfl | ⟨b1, o1, rfl, h1⟩
  · exact sameU4_nil a1 a2 c1 c2 w
  · rcases h2 with rfl | ⟨b2, o2, rfl, h2⟩
    · exact sameU4_nil _ a2 c1 c2 w
    · exact sameU4_some b1 o1 c1 b2 o2 c2 L w h1 h2 hlen
set_option maxHeartbeats 1600000 in
theorem sameF4_any (a b c : Int) (a1 a2 : Option Addr) (c1 c2 : Nat) (L : List Q) (w : World) (h1 : LiesO w a1 L) (h2 : LiesO w a2 L) (hlen : L.length ≤ 1000000) :
    Calls Tryz.prog 20 #[.agg #[.int .i64 a, .int .i64 b, .int .i64 c, .slice a1 L.length c1], .agg #[.int .i64 a, .int .i64 b, .int .i64 c, .slice a2 L.length c2]] w fun e w' => e = .returned (.bool true) ∧ Below w.heap.size w w' := by
  have qa := eqA3 a b c
  have H1 := Lib.hid h1
  have H2 := Lib.hid h2
  have c3 := fun (W : World) (hb : Below w.heap.size w W) => sameU4_any a1 a2 c1 c2 L W (h1.later hb) (h2.later hb) hlen
  have hB : Below w.heap.size w ((w.alloc (.cells #[.int .i64 a, .int .i64 b, .int .i64 c, .slice a1 L.length c1] 25)).alloc (.cells #[.int .i64 a, .int .i64 b, .int .i64 c, .slice a2 L.length c2] 25)) := by repeat (first | (with_reducible exact Below.refl _ _) | (with_reducible refine Below.setCell ?_ ?_ _) | (with_reducible refine Below.drew ?_) | (with_reducible refine Below.alloc ?_ ?_ _) | omega | (simp <;> omega))
  have c4 := c3 _ hB
  clear h1 h2 c3
  go_enter Tryz.func20, Tryz.ntmps20
  go_wp2_with ((with_reducible refine c4.mono ?_); rintro e w1 ⟨rfl, hw1⟩)
  go_ret
  exact ⟨rfl, by repeat (first | (with_reducible exact Below.refl _ _) | (with_reducible refine Below.setCell ?_ ?_ _) | (with_reducible refine Below.drew ?_) | (with_reducible refine Below.alloc ?_ ?_ _) | (with_reducible refine Below.trans ?_ (Below.mono hw1 ?_)) | (with_reducible refine Below.trans ?_ (Below.mono hB ?_)) | (with_reducible exact hw1.size) | (with_reducible exact hB.size) | omega | (simp <;> omega) | (simp <;> (have s := hw1.size; omega)) | (simp <;> (have s := hB.size; omega)) | (have s0 := hw1.size; (try simp at s0); have s1 := hB.size; (try simp at s1); (try simp); omega))⟩
end Go.Proofs.YtpfhjdmgkckjfaaGreatDoor

namespace Go.Proofs.YtpfhjdmgkckjfaaGreatDoor
set_option linter.unusedVariables false
set_option linter.unusedSimpArgs false
set_option maxRecDepth 1000000
open Go.RowKit
open Um Tm Cm

theorem long5_any (a b c : Int) (ao : Option Addr) (cap : Nat) (L : List Q) (d : Bool) (w : World) (h : (200 < L.length ∧ d = true) ∨ (L.length ≤ 200 ∧ d = false)) : Calls Tryz.prog 11 #[.agg #[.int .i64 a, .int .i64 b, .int .i64 c, .slice ao L.length cap]] w fun e w' => e = .returned (.bool d) ∧ Below w.heap.size w w' := by
  rcases h with ⟨h, rfl⟩ | ⟨h, rfl⟩
  · have h2 : (L.length : Int) > 200 := by omega
    go_enter Tryz.func11, Tryz.ntmps11
    go_wp2
    go_ret
    exact ⟨rfl, ba1⟩
  · have h2 : ¬ (L.length : Int) > 200 := by omega
    go_enter Tryz.func11, Tryz.ntmps11
    go_wp2
    go_ret
    exact ⟨rfl, ba1⟩
theorem lies_of5 {w : World} {ao : Option Addr} {L : List Q} (h : LiesO w ao L) (hp : 0 < L.length) : ∃ b f, ao = some ⟨b, f, none⟩ ∧ Lies w b f L := by
  rcases h with h | h
  · rw [h] at hp; simp at hp
  · exact h
end Go.Proofs.YtpfhjdmgkckjfaaGreatDoor

namespace Go.Proofs.YtpfhjdmgkckjfaaGreatDoor
set_option linter.unusedVariables false
set_option linter.unusedSimpArgs false
set_option maxRecDepth 1000000
open Go.RowKit
open Cm Tm

theorem sz221 : Sz 2 2 1 := ⟨by omega, by omega, by omega, by omega, by omega, by omega, by omega⟩
theorem thr221 : thr 2 2 1 0 = [0, 1, 6] := by decide +kernel
theorem nxt_ex : nxt 48271 = 182605794 := by decide
theorem three_cells {w : World} {b : Nat} {x y z : Int} (h0 : w.cell? ⟨b, 0, none⟩ = some (.int .i64 x)) (h1 : w.cell? ⟨b, 1, none⟩ = some (.int .i64 y)) (h2 : w.cell? ⟨b, 2, none⟩ = some (.int .i64 z)) : LiesI w b 0 [x, y, z] := fun i v hv => by
  match i, hv with
  | 0, hv => simp at hv; subst hv; simpa using h0
  | 1, hv => simp at hv; subst hv; simpa using h1
  | 2, hv => simp at hv; subst hv; simpa using h2
  | n + 3, hv => simp at hv
set_option maxHeartbeats 1600000 in
theorem sane5_any (w : World) : Calls Tryz.prog 12 #[] w fun e w' => e = .returned (.bool true) ∧ Below w.heap.size w w' := by
  have c1 := fun W : World => step_any 48271 182605794 0 W (.inl ⟨⟨by omega, by omega⟩, nxt_ex.symm, rfl⟩)
  have c2 : ∀ W : World, Calls Tryz.prog 38 #[.agg #[.int .i64 2, .int .i64 2, .int .i64 1], .int .i64 0] W fun e w' => ∃ g k : Nat, e = .returned (.tuple #[.slice (some ⟨g, 0, none⟩) 3 k, .int .i64 0]) ∧ LiesI w' g 0 [0, 1, 6] ∧ W.heap.size ≤ g ∧ Below W.heap.size W w' := fun W => by
    have := through_ok 2 2 1 0 W sz221 (by omega) (by omega)
    rw [thr221] at this
    exact this
  have c3 : ∀ (g k b n : Nat) (W : World), LiesI W g 0 [0, 1, 6] → LiesI W b 0 [0, 1, 6] → Calls Tryz.prog 39 #[.slice (some ⟨g, 0, none⟩) 3 k, .slice (some ⟨b, 0, none⟩) 3 n] W fun e w' => e = .returned (.bool true) ∧ Below W.heap.size W w' := fun g k b n W h1 h2 =>
    sameInts4_any (some ⟨g, 0, none⟩) (some ⟨b, 0, none⟩) k n [0, 1, 6] [0, 1, 6] W (.inr ⟨g, 0, rfl, h1⟩) (.inr ⟨b, 0, rfl, h2⟩) (by decide)
  go_enter Tryz.func12, Tryz.ntmps12
  go_wp2_with (first | ((with_reducible refine (c1 _).mono ?_); rintro e w1 ⟨rfl, rfl⟩) | ((with_reducible refine (c2 _).mono ?_); rintro e w2 ⟨g, k, rfl, hl, hg, hw2⟩; have HL := Lib.hid hl; clear hl) | ((with_reducible refine (c3 _ _ _ _ _ (HL.out.later ((Below.refl _ _).alloc (Nat.le_refl _) _)) (three_cells (by simp [go_sem]) (by simp [go_sem]) (by simp [go_sem]))).mono ?_); rintro e w3 ⟨rfl, hw3⟩))
  go_ret
  exact ⟨rfl, by repeat (first | (with_reducible exact Below.refl _ _) | (with_reducible refine Below.setCell ?_ ?_ _) | (with_reducible refine Below.drew ?_) | (with_reducible refine Below.alloc ?_ ?_ _) | (with_reducible refine Below.trans ?_ (Below.mono hw3 ?_)) | (with_reducible refine Below.trans ?_ (Below.mono hw2 ?_)) | (with_reducible exact hw3.size) | (with_reducible exact hw2.size) | omega | (simp <;> omega) | (simp <;> (have s := hw3.size; omega)) | (simp <;> (have s := hw2.size; omega)) | (have s0 := hw3.size; (try simp at s0); have s1 := hw2.size; (try simp at s1); (try simp); omega))⟩
end Go.Proofs.YtpfhjdmgkckjfaaGreatDoor
