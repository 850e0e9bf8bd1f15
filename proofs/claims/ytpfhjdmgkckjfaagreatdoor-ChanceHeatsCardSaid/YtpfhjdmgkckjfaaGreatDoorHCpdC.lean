/- Seeds and draws: the next seed, a draw among a number, and many steps at once, as the program and the document's answers make them.
Conditions: those written at each theorem. -/
import Derived.Test.YtpfhjdmgkckjfaaGreatDoorRows
import Derived.Test.YtpfhjdmgkckjfaaGreatDoorHMathA
import Derived.Test.YtpfhjdmgkckjfaaGreatDoorHRegA
import Derived.WalkKit
import Derived.WalkSpells
import Derived.WalkLawsBesides
import Derived.Lib.Hide
import Derived.BigQuiet
import Derived.Deep.DeepFit
import Derived.Test.YtpfhjdmgkckjfaaGreatDoorHOpenW5
import Derived.Test.YtpfhjdmgkckjfaaGreatDoorHCopR
namespace Go.Proofs.YtpfhjdmgkckjfaaGreatDoor
set_option linter.unusedVariables false
set_option linter.unusedSimpArgs false
set_option maxRecDepth 1000000
open Go.RowKit
open Cm

set_option maxHeartbeats 400000 in
theorem chNext_any (s : Int) (w : World) (h : IsSeed s) : Calls Tryz.prog 70 #[.int .i64 s] w fun e w' => e = .returned (.int .i64 (nxt s)) ∧ w = w' := by
  obtain ⟨h1, h2⟩ := h
  go_enter Tryz.func70, Tryz.ntmps70
  go_wp2
  go_ret
  exact ⟨rfl, rfl⟩
/-- the error of a seed -/
def sdR (s r : Int) : Prop := (IsSeed s ∧ r = 0) ∨ (¬ IsSeed s ∧ r = 1)
set_option maxHeartbeats 400000 in
theorem checkSeed_any (s r : Int) (w : World) (h : sdR s r) : Calls Tryz.prog 69 #[.int .i64 s] w fun e w' => e = .returned (.int .i64 r) ∧ w = w' := by
  rcases h with ⟨⟨h1, h2⟩, rfl⟩ | ⟨h, rfl⟩
  · go_enter Tryz.func69, Tryz.ntmps69
    go_wp2
    go_ret
    exact ⟨rfl, rfl⟩
  · unfold IsSeed at h
    by_cases h1 : s < 1
    · clear h
      go_enter Tryz.func69, Tryz.ntmps69
      go_wp2
      go_ret
      exact ⟨rfl, rfl⟩
    · have h2 : 2147483647 ≤ s := by omega
      clear h
      go_enter Tryz.func69, Tryz.ntmps69
      go_wp2
      go_ret
      exact ⟨rfl, rfl⟩
end Go.Proofs.YtpfhjdmgkckjfaaGreatDoor

namespace Go.Proofs.YtpfhjdmgkckjfaaGreatDoor
set_option linter.unusedVariables false
set_option linter.unusedSimpArgs false
set_option maxRecDepth 1000000
open Go.RowKit
open Um Tm

set_option maxHeartbeats 1600000 in
theorem clone_some (bl off cap : Nat) (L : List Q) (w : World) (hl : Lies w bl off L) (hpos : 0 < L.length) (hlen : L.length ≤ 100) : Calls Tryz.prog 84 #[.slice (some ⟨bl, off, none⟩) L.length cap] w fun e w' => ∃ g k : Nat, e = .returned (.slice (some ⟨g, 0, none⟩) L.length k) ∧ LBox w' g L ∧ w.heap.size ≤ g ∧ Below w.heap.size w w' := by
  obtain ⟨i0, hi, hz0, hz1, hz2⟩ := info_parts infoU
  have H := Lib.hid hl
  have q := fun W : World => Lib.run_eql_slice_nil (P := Tryz.prog) W 23 73 (some ⟨bl, off, none⟩) L.length cap 0 0 Tryz.underlying23
  clear hl
  go_enter Tryz.func84, Tryz.ntmps84
  go_wp2_with (at_builtin; refine wpList_append_own _ rfl (.tmp 5) (.tmp 6) 23 rfl w.heap.size 73 i0 _ 5 40 Tryz.underlying23 hi hz0 hz1 hz2 rfl (by decide) (.slice (some ⟨w.heap.size, 0, none⟩) 0 0) 0 [] rfl (World.ownsRow_lit w #[] 0 (Nat.le_refl _) (by unfold maxLen; omega) (by simp)) ⟨bl, off, none⟩ L.length cap (L.flatMap uc) rfl (flat_len uc 5 uc_len L) (lies_news (H.out.later ((Below.refl _ _).alloc (Nat.le_refl _) _))) (lies_ones L) (by unfold maxLen; omega) (by omega) (by simp) ?_; intro v' w1 hown hgrow _)
  obtain ⟨g, k, rfl, hg⟩ := owned5_some hown (by omega)
  obtain ⟨LB, hgb⟩ := owned_LBox (Nat.zero_add _) (by simpa using hown)
  have hb := ((Below.refl w.heap.size w).alloc (Nat.le_refl _) (.cells #[] 73)).grown hgrow (by simp) (fun j hj => by simp [Value.ownBlock] at hj; omega)
  clear hown hgrow
  go_ret
  exact ⟨g, k, by simp, LB, hgb, hb⟩
end Go.Proofs.YtpfhjdmgkckjfaaGreatDoor

namespace Go.Proofs.YtpfhjdmgkckjfaaGreatDoor
set_option linter.unusedVariables false
set_option linter.unusedSimpArgs false
set_option maxRecDepth 1000000
open Go.RowKit
open Um Tm

set_option maxHeartbeats 3200000 in
theorem copied5_any (a b c : Int) (bl off cap : Nat) (L : List Q) (w : World) (hl : Lies w bl off L) (hpos : 0 < L.length) (hlen : L.length ≤ 100) : Calls Tryz.prog 47 #[.agg #[.int .i64 a, .int .i64 b, .int .i64 c, .slice (some ⟨bl, off, none⟩) L.length cap]] w fun e w' => (∃ g k : Nat, e = .returned (.agg #[.int .i64 a, .int .i64 b, .int .i64 c, .slice (some ⟨g, 0, none⟩) L.length k]) ∧ LBox w' g L ∧ w.heap.size ≤ g) ∧ Below w.heap.size w w' := by
  have H := Lib.hid hl
  have cC := fun (W : World) (h : Lies W bl off L) => clone_some bl off cap L W h hpos hlen
  have F0 : FW ((w.alloc (.cells #[.int .i64 a, .int .i64 b, .int .i64 c, .slice (some ⟨bl, off, none⟩) L.length cap] 25)).alloc (.cells #[.int .i64 0, .int .i64 0, .int .i64 0, .slice none 0 0] 25)) w.heap.size a b c (.slice (some ⟨bl, off, none⟩) L.length cap) := FW.n2a
  have R0 : FW ((w.alloc (.cells #[.int .i64 a, .int .i64 b, .int .i64 c, .slice (some ⟨bl, off, none⟩) L.length cap] 25)).alloc (.cells #[.int .i64 0, .int .i64 0, .int .i64 0, .slice none 0 0] 25)) (w.heap.size + 1) 0 0 0 (.slice none 0 0) := FW.n2b
  have RR := Lib.hid R0
  have BW : Below w.heap.size w ((w.alloc (.cells #[.int .i64 a, .int .i64 b, .int .i64 c, .slice (some ⟨bl, off, none⟩) L.length cap] 25)).alloc (.cells #[.int .i64 0, .int .i64 0, .int .i64 0, .slice none 0 0] 25)) := ba2
  clear hl R0
  go_enter Tryz.func47, Tryz.ntmps47
  go_upto_region 1 with (fail)
  generalize (w.alloc (.cells #[.int .i64 a, .int .i64 b, .int .i64 c, .slice (some ⟨bl, off, none⟩) L.length cap] 25)).alloc (.cells #[.int .i64 0, .int .i64 0, .int .i64 0, .slice none 0 0] 25) = W0 at *
  obtain ⟨f0, f1, f2, f3, ff, fl⟩ := F0
  have BWs := BW.size
  have BD : Below w.heap.size w W0.drew := by repeat (first | (with_reducible exact Below.refl _ _) | (with_reducible refine Below.setCell ?_ ?_ _) | (with_reducible refine Below.drew ?_) | (with_reducible refine Below.alloc ?_ ?_ _) | (with_reducible refine Below.trans ?_ (Below.mono BW ?_)) | (with_reducible exact BW.size) | omega | (simp <;> omega) | (simp <;> (have s := BW.size; omega)) | (have s0 := BW.size; (try simp at s0); (try simp); omega))
  have K5 : Hid (∀ w' : World, Below W0.heap.size W0 w' → (w'.cell? ⟨w.heap.size, 0, none⟩ = some (.int .i64 a) ∧ w'.cell? ⟨w.heap.size, 1, none⟩ = some (.int .i64 b) ∧ w'.cell? ⟨w.heap.size, 2, none⟩ = some (.int .i64 c) ∧ w'.cell? ⟨w.heap.size, 3, none⟩ = some (.slice (some ⟨bl, off, none⟩) L.length cap))) := Lib.hid (fun w' h => ⟨held_belowG h f0, held_belowG h f1, held_belowG h f2, held_belowG h f3⟩)
  go_wp2_with (fail)
  go_region_held3 (fun w' => (w'.cell? ⟨w.heap.size, 0, none⟩ = some (.int .i64 a) ∧ w'.cell? ⟨w.heap.size, 1, none⟩ = some (.int .i64 b) ∧ w'.cell? ⟨w.heap.size, 2, none⟩ = some (.int .i64 c) ∧ w'.cell? ⟨w.heap.size, 3, none⟩ = some (.slice (some ⟨bl, off, none⟩) L.length cap)))
    (first | (with_reducible exact K5.out _ B5) | (with_reducible exact K5.out _ (Below.refl _ _)) | go_keep)
    (first | ((with_reducible refine (cC _ (H.out.later BD)).mono ?_); rintro e z5 ⟨g, k, rfl, LB, hg, hw5⟩; have B5 : Below W0.heap.size W0 z5 := belDG hw5; obtain ⟨d0, d1, d2, d3, df, dl⟩ := RR.out.later B5; have HLB := Lib.hid LB; clear LB))
  go_wp2
  have G1 := grown_setCells (w.heap.size + 1) [.int .i64 a, .int .i64 b, .int .i64 c, .slice (some ⟨g, 0, none⟩) L.length k] 0 z5
  have hgs : w.heap.size + 1 < g := by have := RR.out.lt; have : W0.heap.size ≤ g := hg; omega
  have B6 := BW.trans (B5.mono BW.size)
  refine bodyPost_ret (v := .agg #[.int .i64 a, .int .i64 b, .int .i64 c, .slice (some ⟨g, 0, none⟩) L.length k]) ?_ rfl ⟨⟨g, k, rfl, HLB.out.grown G1 (by simp; omega), by omega⟩, B6.grown G1 B6.size (fun j hj => by cases hj; omega)⟩
  simp [results, Tryz.results47, go_sem, d0, d1, d2, d3, dl]
end Go.Proofs.YtpfhjdmgkckjfaaGreatDoor
