/- Weights, as the document's answers hand them back.
Conditions: those written at each theorem. -/
import Derived.Test.YtpfhjdmgkckjfaaGreatDoorHRwsC
import Derived.Test.YtpfhjdmgkckjfaaGreatDoorHAryC
import Derived.Test.YtpfhjdmgkckjfaaGreatDoorHChkC
import Derived.Test.YtpfhjdmgkckjfaaGreatDoorHWlkA
import Derived.Test.YtpfhjdmgkckjfaaGreatDoorHChoM
import Derived.ChangeKeysEq
namespace Go.Proofs.YtpfhjdmgkckjfaaGreatDoor
set_option linter.unusedVariables false
set_option linter.unusedSimpArgs false
set_option maxRecDepth 1000000
open Go.RowKit
open Um Tm Cm

end Go.Proofs.YtpfhjdmgkckjfaaGreatDoor

namespace Go.Proofs.YtpfhjdmgkckjfaaGreatDoor
set_option linter.unusedVariables false
set_option linter.unusedSimpArgs false
set_option maxRecDepth 1000000
open Go.RowKit
open Um Tm Cm

/-- a flow and its error -/
def fwR (A : Array Value) (x y r v q : Int) : Prop := (r ≠ 0 ∧ v = 0 ∧ q = r) ∨ (r = 0 ∧ ¬ ((0 ≤ x ∧ x < 24) ∧ 0 ≤ y ∧ y < 24) ∧ v = 0 ∧ q = 1) ∨ (r = 0 ∧ ((0 ≤ x ∧ x < 24) ∧ 0 ≤ y ∧ y < 24) ∧ A[y.toNat]? = some (.int .i64 v) ∧ q = 0)
end Go.Proofs.YtpfhjdmgkckjfaaGreatDoor

namespace Go.Proofs.YtpfhjdmgkckjfaaGreatDoor
set_option linter.unusedVariables false
set_option linter.unusedSimpArgs false
set_option maxRecDepth 1000000
open Go.RowKit
open Um Tm Cm

/-! ### the program's table, and two of its weights -/
/-- a table in memory: what its functions have captured -/
structure TbR (a b c l : Int) (L : List Q) (bl off cap : Nat) (ws : List Int) (R : List (Q × Value)) (Bc Bw m k pb po : Nat) (xs : List Value) (w : World) : Prop where
  n : R.length = 24
  rows : Rows w Bc Bw m R
  cb : CB w Bc (.slice (some ⟨bl, off, none⟩) L.length cap) l (.slice (some ⟨pb, po, none⟩) (thr a b c l).length k)
  wb : WB w Bw ws
  li : Lies w bl off L
  pl : PLs a b c w xs (thr a b c l)
  xl : ∀ (i : Nat) (x : Value), xs[i]? = some x → w.cell? ⟨pb, po + i, none⟩ = some x
theorem TbR.later {a b c l : Int} {L : List Q} {bl off cap : Nat} {ws : List Int} {R : List (Q × Value)} {Bc Bw m k pb po : Nat} {xs : List Value} {w w1 : World} (h : TbR a b c l L bl off cap ws R Bc Bw m k pb po xs w) (hb : Below w.heap.size w w1) : TbR a b c l L bl off cap ws R Bc Bw m k pb po xs w1 :=
  ⟨h.n, h.rows.later hb, h.cb.later hb, h.wb.later hb, h.li.later hb, h.pl.later hb, fun i x hx => (hb.cell (World.block_lt_of_cell? w _ (h.xl i x hx))).trans (h.xl i x hx)⟩
/-! ### the ratio -/
/-- two numbers over their greatest common divisor -/
def rtv (x y : Int) : Int × Int := (x / gc x y, y / gc x y)
/-- a weight -/
def Wg (x : Int) : Prop := 1 ≤ x ∧ x ≤ 100000000
/-- a block that is known whole, by its array -/
structure RowT (w : World) (m : Nat) (T : TypeId) (A : Array Value) : Prop where
  h : w.heap[m]? = some (.cells A T (0, 0))
theorem RowT.later {w w1 : World} {m : Nat} {T : TypeId} {A : Array Value} (k : RowT w m T A) (hb : Below w.heap.size w w1) : RowT w1 m T A := ⟨(hb.block m (Array.getElem?_eq_some_iff.1 k.h).1).trans k.h⟩
end Go.Proofs.YtpfhjdmgkckjfaaGreatDoor

namespace Go.Proofs.YtpfhjdmgkckjfaaGreatDoor
set_option linter.unusedVariables false
set_option linter.unusedSimpArgs false
set_option maxRecDepth 1000000
open Go.RowKit
open Um Tm Cm

theorem long5_any (a b c : Int) (ao : Option Addr) (cap : Nat) (L : List Q) (d : Bool) (w : World) (h : (200 < L.length ∧ d = true) ∨ (L.length ≤ 200 ∧ d = false)) : Calls Tryz.prog 11 #[.agg #[.int .i64 a, .int .i64 b, .int .i64 c, .slice ao L.length cap]] w fun e w' => e = .returned (.bool d) ∧ Below w.heap.size w w' := by
  rcases h with ⟨h, rfl⟩ | ⟨h, rfl⟩
  · have h2 : (L.length : Int) > 200 := by omega
    go_enter Tryz.func11, Tryz.ntmps11
    go_wp2
    go_ret
    exact ⟨rfl, ba1⟩
  · have h2 : ¬ (L.length : Int) > 200 := by omega
    go_enter Tryz.func11, Tryz.ntmps11
    go_wp2
    go_ret
    exact ⟨rfl, ba1⟩
theorem lies_of5 {w : World} {ao : Option Addr} {L : List Q} (h : LiesO w ao L) (hp : 0 < L.length) : ∃ b f, ao = some ⟨b, f, none⟩ ∧ Lies w b f L := by
  rcases h with h | h
  · rw [h] at hp; simp at hp
  · exact h
end Go.Proofs.YtpfhjdmgkckjfaaGreatDoor

namespace Go.Proofs.YtpfhjdmgkckjfaaGreatDoor
set_option linter.unusedVariables false
set_option linter.unusedSimpArgs false
set_option maxRecDepth 1000000
open Go.ChangeShapes Go.WideShapes Go.ChangeAt Go.RowKit
open Um Tm Cm
open Go.Sort

theorem eq24 (x0 x1 x2 x3 x4 x5 x6 x7 x8 x9 x10 x11 x12 x13 x14 x15 x16 x17 x18 x19 x20 x21 x22 x23 : Int) (W : World) : Sem.run Tryz.prog (Op.equalIn 10000 29 (.agg #[.int .i64 x0, .int .i64 x1, .int .i64 x2, .int .i64 x3, .int .i64 x4, .int .i64 x5, .int .i64 x6, .int .i64 x7, .int .i64 x8, .int .i64 x9, .int .i64 x10, .int .i64 x11, .int .i64 x12, .int .i64 x13, .int .i64 x14, .int .i64 x15, .int .i64 x16, .int .i64 x17, .int .i64 x18, .int .i64 x19, .int .i64 x20, .int .i64 x21, .int .i64 x22, .int .i64 x23]) (.agg #[.int .i64 x0, .int .i64 x1, .int .i64 x2, .int .i64 x3, .int .i64 x4, .int .i64 x5, .int .i64 x6, .int .i64 x7, .int .i64 x8, .int .i64 x9, .int .i64 x10, .int .i64 x11, .int .i64 x12, .int .i64 x13, .int .i64 x14, .int .i64 x15, .int .i64 x16, .int .i64 x17, .int .i64 x18, .int .i64 x19, .int .i64 x20, .int .i64 x21, .int .i64 x22, .int .i64 x23])) W = .ok true W := by
  obtain ⟨i, hi⟩ := info3
  have h := run_equalIn_array W 9999 #[.int .i64 x0, .int .i64 x1, .int .i64 x2, .int .i64 x3, .int .i64 x4, .int .i64 x5, .int .i64 x6, .int .i64 x7, .int .i64 x8, .int .i64 x9, .int .i64 x10, .int .i64 x11, .int .i64 x12, .int .i64 x13, .int .i64 x14, .int .i64 x15, .int .i64 x16, .int .i64 x17, .int .i64 x18, .int .i64 x19, .int .i64 x20, .int .i64 x21, .int .i64 x22, .int .i64 x23] #[.int .i64 x0, .int .i64 x1, .int .i64 x2, .int .i64 x3, .int .i64 x4, .int .i64 x5, .int .i64 x6, .int .i64 x7, .int .i64 x8, .int .i64 x9, .int .i64 x10, .int .i64 x11, .int .i64 x12, .int .i64 x13, .int .i64 x14, .int .i64 x15, .int .i64 x16, .int .i64 x17, .int .i64 x18, .int .i64 x19, .int .i64 x20, .int .i64 x21, .int .i64 x22, .int .i64 x23] Tryz.underlying29 hi
  rw [show (10000 : Nat) = 9999 + 1 from rfl, h, cells3, show List.range 24 = [0, 1, 2, 3, 4, 5, 6, 7, 8, 9, 10, 11, 12, 13, 14, 15, 16, 17, 18, 19, 20, 21, 22, 23] from rfl]
  simp [Op.eqItems, go_sem]
theorem int24 {l : List Int} (h : l.length = 24) : ∃ x0 x1 x2 x3 x4 x5 x6 x7 x8 x9 x10 x11 x12 x13 x14 x15 x16 x17 x18 x19 x20 x21 x22 x23 : Int, (l.map vi).toArray = #[.int .i64 x0, .int .i64 x1, .int .i64 x2, .int .i64 x3, .int .i64 x4, .int .i64 x5, .int .i64 x6, .int .i64 x7, .int .i64 x8, .int .i64 x9, .int .i64 x10, .int .i64 x11, .int .i64 x12, .int .i64 x13, .int .i64 x14, .int .i64 x15, .int .i64 x16, .int .i64 x17, .int .i64 x18, .int .i64 x19, .int .i64 x20, .int .i64 x21, .int .i64 x22, .int .i64 x23] := by
  match l, h with
  | [x0, x1, x2, x3, x4, x5, x6, x7, x8, x9, x10, x11, x12, x13, x14, x15, x16, x17, x18, x19, x20, x21, x22, x23], _ => exact ⟨x0, x1, x2, x3, x4, x5, x6, x7, x8, x9, x10, x11, x12, x13, x14, x15, x16, x17, x18, x19, x20, x21, x22, x23, rfl⟩
theorem eq24A {l : List Int} (h : l.length = 24) (W : World) : Sem.run Tryz.prog (Op.equalIn 10000 29 (.agg (l.map vi).toArray) (.agg (l.map vi).toArray)) W = .ok true W := by
  obtain ⟨x0, x1, x2, x3, x4, x5, x6, x7, x8, x9, x10, x11, x12, x13, x14, x15, x16, x17, x18, x19, x20, x21, x22, x23, hx⟩ := int24 h
  rw [hx]
  exact eq24 x0 x1 x2 x3 x4 x5 x6 x7 x8 x9 x10 x11 x12 x13 x14 x15 x16 x17 x18 x19 x20 x21 x22 x23 W
theorem refWeightsX_of {a b c l : Int} {p0 p1 p2 p3 p4 : Int} {bl off cap : Nat} {L : List Q} (hF : SmF a b c L) (hWO : WOk [p0, p1, p2, p3, p4]) (l0 : 0 ≤ l) (l2 : l < (L.length : Int)) (W : World) (k : Lies W bl off L) : Calls Tryz.prog 44 #[.agg #[.int .i64 a, .int .i64 b, .int .i64 c, .slice (some ⟨bl, off, none⟩) L.length cap], .agg #[.int .i64 p0, .int .i64 p1, .int .i64 p2, .int .i64 p3, .int .i64 p4], .int .i64 l] W fun e w' => e = .returned (.agg ((wsK a b c L [p0, p1, p2, p3, p4] l (thr a b c l) 24).map vi).toArray) ∧ Below W.heap.size W w' := refWeights_any a b c p0 p1 p2 p3 p4 l bl off cap L W k hF hWO l0 l2
theorem wg_of {a b c l : Int} {L : List Q} {ws : List Int} (hF : SmF a b c L) (hw : WOk ws) (l0 : 0 ≤ l) (l1 : l < 3 * (a * b * c)) (k : Nat) (hk : k < 24) : Wg (wprod a b c L ws l (small (k : Int)) (thr a b c l)) := by
  obtain ⟨hn1, hn4⟩ := thr_some hF.z l0 l1
  have hs : Sm (small (k : Int)) := ⟨k, hk, rfl⟩
  obtain ⟨k1, k2⟩ := wprod_rng (l := l) hF hw hs (thr a b c l) (fun p hp => by obtain ⟨j, hj⟩ := List.getElem?_of_mem hp; exact thr_rng hj) (thr a b c l).length (Nat.le_refl _)
  rw [List.take_length] at k1 k2
  refine ⟨k1, Int.le_trans k2 ?_⟩
  have h : (thr a b c l).length = 1 ∨ (thr a b c l).length = 2 ∨ (thr a b c l).length = 3 ∨ (thr a b c l).length = 4 := by omega
  rcases h with h | h | h | h <;> rw [h] <;> decide
end Go.Proofs.YtpfhjdmgkckjfaaGreatDoor
