/- A list of integers that a call has made is sorted, and cut to the first of each run, by the library.
Conditions: those written at each theorem. -/
import Derived.Test.YtpfhjdmgkckjfaaDoorQShelf
import Derived.Test.YtpfhjdmgkckjfaaDoorQInts
import Derived.Test.YtpfhjdmgkckjfaaDoorQThrM
import Derived.Lib.OwnBridge
namespace Go.Proofs.YtpfhjdmgkckjfaaDoor
set_option linter.unusedVariables false
set_option linter.unusedSimpArgs false
set_option maxRecDepth 1000000
open Go.RowKit Go.Sort
open Cm

theorem below_grow {B : Nat} {w0 w : World} (h : Below B w0 w) (hB : B ≤ w.heap.size) (os : Array Obj) : Below B w0 (grow w os) :=
  ⟨h.os, h.tape, h.output, by rw [size_grow]; exact Nat.le_trans h.size (Nat.le_add_right _ _), fun k hk => by
    rw [← h.block k hk, heap_grow_old _ _ (by omega)]⟩
theorem sort_own (base g cap : Nat) (zs : List Int) (w : World) (h : w.ownsRow base 3 1 (.slice (some ⟨g, 0, none⟩) zs.length cap) zs.length (zs.map vi)) (hlen : zs.length ≤ 1000) :
    Calls Tryd.prog 37 #[.slice (some ⟨g, 0, none⟩) zs.length cap] w fun e w' => e = .returned (.tuple #[]) ∧ w'.ownsRow base 3 1 (.slice (some ⟨g, 0, none⟩) zs.length cap) zs.length ((isort zs).map vi) ∧ ∀ B w0, Below B w0 w → B ≤ g → Below B w0 w' := by
  obtain ⟨g', cap', he, hb, hlt, hn, hm, hl, hH⟩ := Lib.holds_of_ownsRow (enc := vi) h (by simp)
  simp only [Value.slice.injEq, Option.some.injEq, Addr.mk.injEq, and_true, true_and] at he
  obtain ⟨rfl, rfl⟩ := he
  refine (Tryd.slices_Sort_int g 0 cap zs w hH hlt (by omega)).mono ?_
  rintro e w' ⟨rfl, n, os, rfl⟩
  rw [merge_isort]
  have hli : (isort zs).length = zs.length := (isort_perm zs).length_eq
  have k := Lib.ownsRow_putRow (enc := vi) (q := n) h hli (Nat.le_refl _)
  rw [List.take_of_length_le (by omega)] at k
  refine ⟨rfl, owned_later k (below_grow (Below.refl _ _) (Nat.le_refl _) os), fun B w0 hB hBg => below_grow (Lib.below_putRow hB hBg) ?_ os⟩
  have := hB.size
  rw [size_putRow]
  exact Nat.le_trans hBg (Nat.le_of_lt hlt)
theorem compact_own (base g cap n : Nat) (zs : List Int) (w : World) (h : w.ownsRow base 3 1 (.slice (some ⟨g, 0, none⟩) n cap) n (zs.map vi)) (hzn : zs.length = n) (hlen : zs.length ≤ 1000) :
    Calls Tryd.prog 38 #[.slice (some ⟨g, 0, none⟩) n cap] w fun e w' => e = .returned (.slice (some ⟨g, 0, none⟩) (Lib.compact zs).length cap) ∧ LiesI w' g 0 (Lib.compact zs) ∧ ∀ B w0, Below B w0 w → B ≤ g → Below B w0 w' := by
  subst hzn
  obtain ⟨g', cap', he, hb, hlt, hn, hm, hl, hH⟩ := Lib.holds_of_ownsRow (enc := vi) h (by simp)
  simp only [Value.slice.injEq, Option.some.injEq, Addr.mk.injEq, and_true, true_and] at he
  obtain ⟨rfl, rfl⟩ := he
  refine (Tryd.slices_Compact_int g 0 cap zs w hH (by omega) hn).mono ?_
  rintro e w' ⟨rfl, q, rfl⟩
  have hcl : (Lib.compact zs).length ≤ zs.length := by
    unfold Lib.compact Lib.compactUpTo
    rw [List.length_map]
    exact Nat.le_trans (List.length_filter_le _ _) (by simp)
  refine ⟨rfl, ?_, fun B w0 hB hBg => Lib.below_putRow hB hBg⟩
  have k := Lib.ownsRow_putRow (enc := vi) (q := q) (k := (Lib.compact zs).length) (ys := Lib.compact zs ++ List.replicate (zs.length - (Lib.compact zs).length) 0) h (by simp; omega) hcl
  rw [List.take_left] at k
  exact owned_liesI k
end Go.Proofs.YtpfhjdmgkckjfaaDoor
