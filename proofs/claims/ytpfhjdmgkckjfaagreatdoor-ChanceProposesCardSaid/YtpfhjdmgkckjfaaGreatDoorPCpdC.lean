/- A field with memory of its own, as the program copies it.
Conditions: the field lies in memory and has from 1 to 100 links. -/
import Derived.Test.YtpfhjdmgkckjfaaGreatDoorPAlongC
import Derived.Test.YtpfhjdmgkckjfaaGreatDoorPCloC
import Derived.Test.YtpfhjdmgkckjfaaGreatDoorPAryC
import Derived.OpenShut
import Derived.Test.YtpfhjdmgkckjfaaGreatDoorPRatC5
import Derived.Test.YtpfhjdmgkckjfaaGreatDoorPThrM
import Derived.ChangeKeysEq
namespace Go.Proofs.YtpfhjdmgkckjfaaGreatDoor
set_option linter.unusedVariables false
set_option linter.unusedSimpArgs false
set_option maxRecDepth 1000000
open Go.RowKit
open Um Tm

set_option maxHeartbeats 3200000 in
theorem copied5_any (a b c : Int) (bl off cap : Nat) (L : List Q) (w : World) (hl : Lies w bl off L) (hpos : 0 < L.length) (hlen : L.length ≤ 100) : Calls Tryz.prog 47 #[.agg #[.int .i64 a, .int .i64 b, .int .i64 c, .slice (some ⟨bl, off, none⟩) L.length cap]] w fun e w' => (∃ g k : Nat, e = .returned (.agg #[.int .i64 a, .int .i64 b, .int .i64 c, .slice (some ⟨g, 0, none⟩) L.length k]) ∧ LBox w' g L ∧ w.heap.size ≤ g) ∧ Below w.heap.size w w' := by
  have H := Lib.hid hl
  have cC := fun (W : World) (h : Lies W bl off L) => clone_some bl off cap L W h hpos hlen
  have F0 : FW ((w.alloc (.cells #[.int .i64 a, .int .i64 b, .int .i64 c, .slice (some ⟨bl, off, none⟩) L.length cap] 25)).alloc (.cells #[.int .i64 0, .int .i64 0, .int .i64 0, .slice none 0 0] 25)) w.heap.size a b c (.slice (some ⟨bl, off, none⟩) L.length cap) := FW.n2a
  have R0 : FW ((w.alloc (.cells #[.int .i64 a, .int .i64 b, .int .i64 c, .slice (some ⟨bl, off, none⟩) L.length cap] 25)).alloc (.cells #[.int .i64 0, .int .i64 0, .int .i64 0, .slice none 0 0] 25)) (w.heap.size + 1) 0 0 0 (.slice none 0 0) := FW.n2b
  have RR := Lib.hid R0
  have BW : Below w.heap.size w ((w.alloc (.cells #[.int .i64 a, .int .i64 b, .int .i64 c, .slice (some ⟨bl, off, none⟩) L.length cap] 25)).alloc (.cells #[.int .i64 0, .int .i64 0, .int .i64 0, .slice none 0 0] 25)) := ba2
  clear hl R0
  go_enter Tryz.func47, Tryz.ntmps47
  go_upto_region 1 with (fail)
  generalize (w.alloc (.cells #[.int .i64 a, .int .i64 b, .int .i64 c, .slice (some ⟨bl, off, none⟩) L.length cap] 25)).alloc (.cells #[.int .i64 0, .int .i64 0, .int .i64 0, .slice none 0 0] 25) = W0 at *
  obtain ⟨f0, f1, f2, f3, ff, fl⟩ := F0
  have BWs := BW.size
  have BD : Below w.heap.size w W0.drew := by repeat (first | (with_reducible exact Below.refl _ _) | (with_reducible refine Below.setCell ?_ ?_ _) | (with_reducible refine Below.drew ?_) | (with_reducible refine Below.alloc ?_ ?_ _) | (with_reducible refine Below.trans ?_ (Below.mono BW ?_)) | (with_reducible exact BW.size) | omega | (simp <;> omega) | (simp <;> (have s := BW.size; omega)) | (have s0 := BW.size; (try simp at s0); (try simp); omega))
  have K5 : Hid (∀ w' : World, Below W0.heap.size W0 w' → (w'.cell? ⟨w.heap.size, 0, none⟩ = some (.int .i64 a) ∧ w'.cell? ⟨w.heap.size, 1, none⟩ = some (.int .i64 b) ∧ w'.cell? ⟨w.heap.size, 2, none⟩ = some (.int .i64 c) ∧ w'.cell? ⟨w.heap.size, 3, none⟩ = some (.slice (some ⟨bl, off, none⟩) L.length cap))) := Lib.hid (fun w' h => ⟨held_belowG h f0, held_belowG h f1, held_belowG h f2, held_belowG h f3⟩)
  go_wp2_with (fail)
  go_region_held3 (fun w' => (w'.cell? ⟨w.heap.size, 0, none⟩ = some (.int .i64 a) ∧ w'.cell? ⟨w.heap.size, 1, none⟩ = some (.int .i64 b) ∧ w'.cell? ⟨w.heap.size, 2, none⟩ = some (.int .i64 c) ∧ w'.cell? ⟨w.heap.size, 3, none⟩ = some (.slice (some ⟨bl, off, none⟩) L.length cap)))
    (first | (with_reducible exact K5.out _ B5) | (with_reducible exact K5.out _ (Below.refl _ _)) | go_keep)
    (first | ((with_reducible refine (cC _ (H.out.later BD)).mono ?_); rintro e z5 ⟨g, k, rfl, LB, hg, hw5⟩; have B5 : Below W0.heap.size W0 z5 := belDG hw5; obtain ⟨d0, d1, d2, d3, df, dl⟩ := RR.out.later B5; have HLB := Lib.hid LB; clear LB))
  go_wp2
  have G1 := grown_setCells (w.heap.size + 1) [.int .i64 a, .int .i64 b, .int .i64 c, .slice (some ⟨g, 0, none⟩) L.length k] 0 z5
  have hgs : w.heap.size + 1 < g := by have := RR.out.lt; have : W0.heap.size ≤ g := hg; omega
  have B6 := BW.trans (B5.mono BW.size)
  refine bodyPost_ret (v := .agg #[.int .i64 a, .int .i64 b, .int .i64 c, .slice (some ⟨g, 0, none⟩) L.length k]) ?_ rfl ⟨⟨g, k, rfl, HLB.out.grown G1 (by simp; omega), by omega⟩, B6.grown G1 B6.size (fun j hj => by cases hj; omega)⟩
  simp [results, Tryz.results47, go_sem, d0, d1, d2, d3, dl]
end Go.Proofs.YtpfhjdmgkckjfaaGreatDoor

namespace Go.Proofs.YtpfhjdmgkckjfaaGreatDoor
set_option linter.unusedVariables false
set_option linter.unusedSimpArgs false
set_option maxRecDepth 1000000
section
open Go.ChangeShapes Go.WideShapes Go.ChangeAt Go.RowKit Go.Joins Go.Deep
variable {H : Type} {enc : TypeId × Value → H} {w : World} {base : Nat} {spare : Nat → Bool} {held : Bool}
theorem cells_at5 : Tryz.prog.cellsOf 36 = 3 := by kernel_rfl
theorem one_of_at5 {fs : Array Field} (_ : Tryz.prog.underlying 36 = some (.struct fs)) (h : oneCellFields Tryz.prog fs = true) : oneCellFields Tryz.prog fs = true := h
theorem open_at5 {r : Reach} {b0 : Nat} {v : Value} {d : DataW H} {p : List MemPlace} (hv : Value.okWide Tryz.prog w r b0 36 v) (h : DataW.Trod enc Tryz.prog w base spare held 36 v d p) : ∃ a b c : Int, v = .agg #[.int .i64 a, .int .i64 b, .int .i64 c] := by
  obtain ⟨cs, rfl, hsz⟩ := okWide_struct Tryz.underlying36 hv
  obtain ⟨l⟩ := cs
  match l, hsz.trans cells_at5 with
  | [c0, c1, c2], _ =>
    obtain ⟨fuel, hf⟩ := h
    obtain ⟨xs, n, _, _, _, hlen, hg⟩ := DataW.trod_struct Tryz.underlying36 hf
    have hone := one_of_at5 (fs := _) Tryz.underlying36 (by kernel_rfl)
    match xs, hlen with
    | [y0, y1, y2], _ =>
      obtain ⟨o0, k0⟩ := hone_of hone 0 _ rfl
      obtain ⟨o1, k1⟩ := hone_of hone 1 _ rfl
      obtain ⟨o2, k2⟩ := hone_of hone 2 _ rfl
      obtain ⟨a0, e0, _, _⟩ := DataW.trod_int Tryz.underlying3 (show DataW.trod enc Tryz.prog w base spare held n 3 [c0] = some y0 by simpa [Value.cells, o0, cells3] using hg 0 _ rfl)
      obtain ⟨a1, e1, _, _⟩ := DataW.trod_int Tryz.underlying3 (show DataW.trod enc Tryz.prog w base spare held n 3 [c1] = some y1 by simpa [Value.cells, o1, cells3] using hg 1 _ rfl)
      obtain ⟨a2, e2, _, _⟩ := DataW.trod_int Tryz.underlying3 (show DataW.trod enc Tryz.prog w base spare held n 3 [c2] = some y2 by simpa [Value.cells, o2, cells3] using hg 2 _ rfl)
      simp at e0 e1 e2
      subst e0 e1 e2
      exact ⟨a0, a1, a2, rfl⟩
end
end Go.Proofs.YtpfhjdmgkckjfaaGreatDoor

namespace Go.Proofs.YtpfhjdmgkckjfaaGreatDoor
set_option linter.unusedVariables false
set_option linter.unusedSimpArgs false
set_option maxRecDepth 1000000
open Go.ChangeShapes Go.WideShapes Go.ChangeAt Go.RowKit
open Um Tm Cm
open Go.Sort

theorem refWeightsX_of {a b c l : Int} {p0 p1 p2 p3 p4 : Int} {bl off cap : Nat} {L : List Q} (hF : SmF a b c L) (hWO : WOk [p0, p1, p2, p3, p4]) (l0 : 0 ≤ l) (l2 : l < (L.length : Int)) (W : World) (k : Lies W bl off L) : Calls Tryz.prog 44 #[.agg #[.int .i64 a, .int .i64 b, .int .i64 c, .slice (some ⟨bl, off, none⟩) L.length cap], .agg #[.int .i64 p0, .int .i64 p1, .int .i64 p2, .int .i64 p3, .int .i64 p4], .int .i64 l] W fun e w' => e = .returned (.agg ((wsK a b c L [p0, p1, p2, p3, p4] l (thr a b c l) 24).map vi).toArray) ∧ Below W.heap.size W w' := refWeights_any a b c p0 p1 p2 p3 p4 l bl off cap L W k hF hWO l0 l2
theorem wsK_get (a b c l : Int) (L : List Q) (ws ps : List Int) (k : Nat) (hk : k < 24) : (wsK a b c L ws l ps 24)[k]? = some (wprod a b c L ws l (small (k : Int)) ps) := by
  unfold wsK
  rw [List.getElem?_map, List.getElem?_range hk]
  rfl
theorem wg_of {a b c l : Int} {L : List Q} {ws : List Int} (hF : SmF a b c L) (hw : WOk ws) (l0 : 0 ≤ l) (l1 : l < 3 * (a * b * c)) (k : Nat) (hk : k < 24) : Wg (wprod a b c L ws l (small (k : Int)) (thr a b c l)) := by
  obtain ⟨hn1, hn4⟩ := thr_some hF.z l0 l1
  have hs : Sm (small (k : Int)) := ⟨k, hk, rfl⟩
  obtain ⟨k1, k2⟩ := wprod_rng (l := l) hF hw hs (thr a b c l) (fun p hp => by obtain ⟨j, hj⟩ := List.getElem?_of_mem hp; exact thr_rng hj) (thr a b c l).length (Nat.le_refl _)
  rw [List.take_length] at k1 k2
  refine ⟨k1, Int.le_trans k2 ?_⟩
  have h : (thr a b c l).length = 1 ∨ (thr a b c l).length = 2 ∨ (thr a b c l).length = 3 ∨ (thr a b c l).length = 4 := by omega
  rcases h with h | h | h | h <;> rw [h] <;> decide
end Go.Proofs.YtpfhjdmgkckjfaaGreatDoor
