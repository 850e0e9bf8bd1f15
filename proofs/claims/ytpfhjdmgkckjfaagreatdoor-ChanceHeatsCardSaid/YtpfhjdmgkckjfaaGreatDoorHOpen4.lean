/- A list of integers that a call has made is sorted, and cut to the first of each run, by the library.
Conditions: those written at each theorem. -/
import Derived.Test.YtpfhjdmgkckjfaaGreatDoorHShelf
import Derived.Test.YtpfhjdmgkckjfaaGreatDoorHChoM
import Derived.Test.YtpfhjdmgkckjfaaGreatDoorHEqU
import Derived.Lib.OwnBridge
import Derived.Test.YtpfhjdmgkckjfaaGreatDoorHRows5
namespace Go.Proofs.YtpfhjdmgkckjfaaGreatDoor
set_option linter.unusedVariables false
set_option linter.unusedSimpArgs false
set_option maxRecDepth 1000000
open Go.RowKit Go.Sort
open Cm

theorem below_grow {B : Nat} {w0 w : World} (h : Below B w0 w) (hB : B ≤ w.heap.size) (os : Array Obj) : Below B w0 (grow w os) :=
  ⟨h.os, h.tape, h.output, by rw [size_grow]; exact Nat.le_trans h.size (Nat.le_add_right _ _), fun k hk => by
    rw [← h.block k hk, heap_grow_old _ _ (by omega)]⟩
theorem sort_own (base g cap : Nat) (zs : List Int) (w : World) (h : w.ownsRow base 3 1 (.slice (some ⟨g, 0, none⟩) zs.length cap) zs.length (zs.map vi)) (hlen : zs.length ≤ 1000) :
    Calls Tryz.prog 75 #[.slice (some ⟨g, 0, none⟩) zs.length cap] w fun e w' => e = .returned (.tuple #[]) ∧ w'.ownsRow base 3 1 (.slice (some ⟨g, 0, none⟩) zs.length cap) zs.length ((isort zs).map vi) ∧ ∀ B w0, Below B w0 w → B ≤ g → Below B w0 w' := by
  obtain ⟨g', cap', he, hb, hlt, hn, hm, hl, hH⟩ := Lib.holds_of_ownsRow (enc := vi) h (by simp)
  simp only [Value.slice.injEq, Option.some.injEq, Addr.mk.injEq, and_true, true_and] at he
  obtain ⟨rfl, rfl⟩ := he
  refine (Tryz.slices_Sort_int g 0 cap zs w hH hlt (by omega)).mono ?_
  rintro e w' ⟨rfl, n, os, rfl⟩
  rw [merge_isort]
  have hli : (isort zs).length = zs.length := (isort_perm zs).length_eq
  have k := Lib.ownsRow_putRow (enc := vi) (q := n) h hli (Nat.le_refl _)
  rw [List.take_of_length_le (by omega)] at k
  refine ⟨rfl, owned_later k (below_grow (Below.refl _ _) (Nat.le_refl _) os), fun B w0 hB hBg => below_grow (Lib.below_putRow hB hBg) ?_ os⟩
  have := hB.size
  rw [size_putRow]
  exact Nat.le_trans hBg (Nat.le_of_lt hlt)
theorem compact_own (base g cap n : Nat) (zs : List Int) (w : World) (h : w.ownsRow base 3 1 (.slice (some ⟨g, 0, none⟩) n cap) n (zs.map vi)) (hzn : zs.length = n) (hlen : zs.length ≤ 1000) :
    Calls Tryz.prog 76 #[.slice (some ⟨g, 0, none⟩) n cap] w fun e w' => e = .returned (.slice (some ⟨g, 0, none⟩) (Lib.compact zs).length cap) ∧ LiesI w' g 0 (Lib.compact zs) ∧ ∀ B w0, Below B w0 w → B ≤ g → Below B w0 w' := by
  subst hzn
  obtain ⟨g', cap', he, hb, hlt, hn, hm, hl, hH⟩ := Lib.holds_of_ownsRow (enc := vi) h (by simp)
  simp only [Value.slice.injEq, Option.some.injEq, Addr.mk.injEq, and_true, true_and] at he
  obtain ⟨rfl, rfl⟩ := he
  refine (Tryz.slices_Compact_int g 0 cap zs w hH (by omega) hn).mono ?_
  rintro e w' ⟨rfl, q, rfl⟩
  have hcl : (Lib.compact zs).length ≤ zs.length := by
    unfold Lib.compact Lib.compactUpTo
    rw [List.length_map]
    exact Nat.le_trans (List.length_filter_le _ _) (by simp)
  refine ⟨rfl, ?_, fun B w0 hB hBg => Lib.below_putRow hB hBg⟩
  have k := Lib.ownsRow_putRow (enc := vi) (q := q) (k := (Lib.compact zs).length) (ys := Lib.compact zs ++ List.replicate (zs.length - (Lib.compact zs).length) 0) h (by simp; omega) hcl
  rw [List.take_left] at k
  exact owned_liesI k
end Go.Proofs.YtpfhjdmgkckjfaaGreatDoor

namespace Go.Proofs.YtpfhjdmgkckjfaaGreatDoor
set_option linter.unusedVariables false
set_option linter.unusedSimpArgs false
set_option maxRecDepth 1000000
open Go.ChangeShapes Go.WideShapes Go.ChangeAt Go.RowKit
open Um

section
open Go.ChangeShapes Go.WideShapes Go.ChangeAt Go.RowKit Go.Joins Go.Deep
variable {H : Type} {enc : TypeId × Value → H} {w : World} {base : Nat} {spare : Nat → Bool} {held : Bool}
theorem cellsF : Tryz.prog.cellsOf 25 = 4 := by kernel_rfl
theorem cellsA3 : Tryz.prog.cellsOf 22 = 3 := by kernel_rfl
theorem cellsUs : Tryz.prog.cellsOf 23 = 1 := by kernel_rfl
theorem open_fieldN {r : Reach} {b0 : Nat} {v : Value} {d : DataW H} {p : List MemPlace} (hv : Value.okWide Tryz.prog w r b0 25 v) (h : DataW.Trod enc Tryz.prog w base spare held 25 v d p) : ∃ (x y z : Int) (ao : Option Addr) (L : List Q) (cap : Nat), v = .agg #[.int .i64 x, .int .i64 y, .int .i64 z, .slice ao L.length cap] ∧ L.length ≤ maxLen ∧ LiesO w ao L ∧ (ao = none → cap = 0) := by
  obtain ⟨cs, rfl, hsz⟩ := okWide_struct Tryz.underlying25 hv
  obtain ⟨ls⟩ := cs
  match ls, hsz.trans cellsF with
  | [c0, c1, c2, c3], _ =>
    obtain ⟨fuel, hf⟩ := h
    obtain ⟨xs, n, _, _, _, hlen, hg⟩ := DataW.trod_struct Tryz.underlying25 hf
    match xs, hlen with
    | [y0, y1], _ =>
      have g0' : DataW.trod enc Tryz.prog w base spare held n 22 [c0, c1, c2] = some y0 := by simpa [Value.cells, cellsA3] using hg 0 _ rfl
      have g1' : DataW.trod enc Tryz.prog w base spare held n 23 [c3] = some y1 := by simpa [Value.cells, cellsUs] using hg 1 _ rfl
      obtain ⟨ao, L, cap, e3, hl, hm⟩ := trod_units g1'
      have hnil : ao = none → cap = 0 := fun h0 => by
        subst h0
        rcases open_slice_fields Tryz.underlying23 Tryz.underlying73 (one_of (fs := _) Tryz.underlying73 (by kernel_rfl)) cells23 g1' with h | ⟨a, len, cap', h, _⟩
        · rw [h] at e3; simp at e3; exact e3.2.symm
        · rw [h] at e3; simp at e3
      obtain ⟨zs, n', _, _, _, hlen', hg'⟩ := DataW.trod_array Tryz.underlying22 g0'
      match zs, hlen' with
      | [z0, z1, z2], _ =>
        obtain ⟨a, e0, _, _⟩ := DataW.trod_int Tryz.underlying3 (show DataW.trod enc Tryz.prog w base spare held n' 3 [c0] = some z0 by simpa [Value.cells, cells3] using hg' 0 (by omega))
        obtain ⟨b, e1, _, _⟩ := DataW.trod_int Tryz.underlying3 (show DataW.trod enc Tryz.prog w base spare held n' 3 [c1] = some z1 by simpa [Value.cells, cells3] using hg' 1 (by omega))
        obtain ⟨c, e2, _, _⟩ := DataW.trod_int Tryz.underlying3 (show DataW.trod enc Tryz.prog w base spare held n' 3 [c2] = some z2 by simpa [Value.cells, cells3] using hg' 2 (by omega))
        simp at e0 e1 e2 e3
        subst e0 e1 e2 e3
        exact ⟨a, b, c, ao, L, cap, rfl, hl, hm, hnil⟩
end
section
open Go.ChangeShapes Go.WideShapes Go.ChangeAt Go.RowKit Go.Joins Go.Deep
variable {H : Type} {enc : TypeId × Value → H} {w : World} {base : Nat} {spare : Nat → Bool} {held : Bool}
end

end Go.Proofs.YtpfhjdmgkckjfaaGreatDoor
