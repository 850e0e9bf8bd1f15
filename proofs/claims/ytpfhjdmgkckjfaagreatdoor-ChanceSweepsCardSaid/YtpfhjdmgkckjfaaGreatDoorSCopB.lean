/- A field, copied, as the document's answers of layer 4 make it, whatever the slice.
Conditions: the field has at most 200 links. -/
import Derived.Test.YtpfhjdmgkckjfaaGreatDoorSAlongC
namespace Go.Proofs.YtpfhjdmgkckjfaaGreatDoor
set_option linter.unusedVariables false
set_option linter.unusedSimpArgs false
set_option maxRecDepth 1000000
open Go.RowKit
open Um Tm

set_option maxHeartbeats 3200000 in
theorem refCopy4_big (a b c : Int) (bl off cap : Nat) (L : List Q) (w : World) (hl : Lies w bl off L) (hpos : 0 < L.length) (hlen : L.length ≤ 200) : Calls Tryz.prog 17 #[.agg #[.int .i64 a, .int .i64 b, .int .i64 c, .slice (some ⟨bl, off, none⟩) L.length cap]] w fun e w' => ∃ g k : Nat, e = .returned (.agg #[.int .i64 a, .int .i64 b, .int .i64 c, .slice (some ⟨g, 0, none⟩) L.length k]) ∧ LBox w' g L ∧ w.heap.size ≤ g ∧ Below w.heap.size w w' := by
  obtain ⟨i0, hi, hz0, hz1, hz2⟩ := info_parts infoU
  have H := Lib.hid hl
  clear hl
  go_enter Tryz.func17, Tryz.ntmps17
  go_wp2
  obtain ⟨W0, hW0⟩ : ∃ W0, (w.alloc (.cells #[.int .i64 a, .int .i64 b, .int .i64 c, .slice (some ⟨bl, off, none⟩) L.length cap] 25)).alloc (.cells #[.int .i64 0, .int .i64 0, .int .i64 0, .slice none 0 0] 25) = W0 := ⟨_, rfl⟩
  have F0 : FW W0 w.heap.size a b c (.slice (some ⟨bl, off, none⟩) L.length cap) := by rw [← hW0]; exact ⟨by simp [go_sem], by simp [go_sem], by simp [go_sem], by simp [go_sem], fun j => by simp [go_sem], by simp <;> omega⟩
  have R0 : FW W0 (w.heap.size + 1) 0 0 0 (.slice none 0 0) := by rw [← hW0]; exact ⟨by simp [go_sem], by simp [go_sem], by simp [go_sem], by simp [go_sem], fun j => by simp [go_sem], by simp⟩
  have hB0 : Below w.heap.size w W0 := by rw [← hW0]; repeat (first | (with_reducible exact Below.refl _ _) | (with_reducible refine Below.setCell ?_ ?_ _) | (with_reducible refine Below.drew ?_) | (with_reducible refine Below.alloc ?_ ?_ _) | omega | (simp <;> omega))
  have hs0 : W0.heap.size = w.heap.size + 2 := by rw [← hW0]; simp
  rw [hW0]
  clear hW0
  obtain ⟨f0, f1, f2, f3, ff, fl⟩ := F0
  have RR := Lib.hid R0
  clear R0
  have own0 : (W0.alloc (.cells #[] 73)).ownsRow (w.heap.size + 2) 73 5 (.slice (some ⟨w.heap.size + 2, 0, none⟩) 0 0) 0 [] := by
    have := World.ownsRow_lit (base := W0.heap.size) (e := 73) (size := 5) W0 #[] 0 (Nat.le_refl _) (by unfold maxLen; omega) (by simp)
    rwa [hs0] at this
  have R1 : FW (W0.alloc (.cells #[] 73)).drew (w.heap.size + 1) 0 0 0 (.slice none 0 0) := RR.out.later (by repeat (first | (with_reducible exact Below.refl _ _) | (with_reducible refine Below.setCell ?_ ?_ _) | (with_reducible refine Below.drew ?_) | (with_reducible refine Below.alloc ?_ ?_ _) | omega | (simp <;> omega)))
  have RR1 := Lib.hid R1
  clear R1
  go_region_held3 (fun w' => w'.cell? ⟨w.heap.size, 0, none⟩ = some (.int .i64 a) ∧ w'.cell? ⟨w.heap.size, 1, none⟩ = some (.int .i64 b) ∧ w'.cell? ⟨w.heap.size, 2, none⟩ = some (.int .i64 c) ∧ w'.cell? ⟨w.heap.size, 3, none⟩ = some (.slice (some ⟨bl, off, none⟩) L.length cap))
    (first
      | go_keep
      | (go_split_ands
         refine ⟨?_, ?_, ?_, ?_⟩
         · (rw [hgrow.cell_far _ (by simp <;> omega) (by simp [Value.ownBlock] <;> omega)]; assumption)
         · (rw [hgrow.cell_far _ (by simp <;> omega) (by simp [Value.ownBlock] <;> omega)]; assumption)
         · (rw [hgrow.cell_far _ (by simp <;> omega) (by simp [Value.ownBlock] <;> omega)]; assumption)
         · (rw [hgrow.cell_far _ (by simp <;> omega) (by simp [Value.ownBlock] <;> omega)]; assumption)))
    ((refine step_append_lies _ (by rfl) _ _ _ (by rfl) (w.heap.size + 2) 73 i0 _ 5 40 Tryz.underlying23 hi hz0 hz1 hz2 rfl (by omega) (.slice (some ⟨w.heap.size + 2, 0, none⟩) 0 0) 0 [] (by rfl) own0.drew
        ⟨bl, off, none⟩ L.length cap (L.flatMap uc) (by rfl) (flat_len uc 5 uc_len L) (lies_news (H.out.later (by repeat (first | (with_reducible exact Below.refl _ _) | (with_reducible refine Below.setCell ?_ ?_ _) | (with_reducible refine Below.drew ?_) | (with_reducible refine Below.alloc ?_ ?_ _) | (with_reducible refine Below.trans ?_ (Below.mono hB0 ?_)) | (with_reducible exact hB0.size) | omega | (simp <;> omega) | (simp <;> (have s := hB0.size; omega)) | (have s0 := hB0.size; (try simp at s0); (try simp); omega))))) (lies_ones L)
        hpos (by unfold maxLen; omega) (by omega) (by simp; omega) (w.heap.size + 3) (by simp; omega) ?_; intro gg cap1 w1 hown1 hgrow hat hlt; obtain ⟨d0, d1, d2, d3, df, dl⟩ := RR1.out.grown hgrow (by simp [Value.ownBlock])))
  obtain ⟨LB, hgb⟩ := owned_LBox rfl (by simpa using hown1)
  have hbw : Below w.heap.size w w1 := (show Below w.heap.size w (W0.alloc (.cells #[] 73)).drew by repeat (first | (with_reducible exact Below.refl _ _) | (with_reducible refine Below.setCell ?_ ?_ _) | (with_reducible refine Below.drew ?_) | (with_reducible refine Below.alloc ?_ ?_ _) | (with_reducible refine Below.trans ?_ (Below.mono hB0 ?_)) | (with_reducible exact hB0.size) | omega | (simp <;> omega) | (simp <;> (have s := hB0.size; omega)) | (have s0 := hB0.size; (try simp at s0); (try simp); omega))).grown hgrow (by simp; omega) (fun j hj => by simp [Value.ownBlock] at hj; omega)
  clear hown1 hgrow own0 RR1 RR H hB0 f0 f1 f2 f3
  go_wp2
  have G1 := grown_setCells (w.heap.size + 1) [.int .i64 a, .int .i64 b, .int .i64 c, .slice (some ⟨gg, 0, none⟩) L.length cap1] 0 w1
  refine bodyPost_ret (v := .agg #[.int .i64 a, .int .i64 b, .int .i64 c, .slice (some ⟨gg, 0, none⟩) L.length cap1]) ?_ rfl ⟨gg, cap1, rfl, ?_, by omega, ?_⟩
  · simp [results, Tryz.results17, go_sem, d0, d1, d2, d3]
  · exact LB.grown G1 (by simp; omega)
  · repeat (first | (with_reducible exact Below.refl _ _) | (with_reducible refine Below.setCell ?_ ?_ _) | (with_reducible refine Below.drew ?_) | (with_reducible refine Below.alloc ?_ ?_ _) | (with_reducible refine Below.trans ?_ (Below.mono hbw ?_)) | (with_reducible exact hbw.size) | omega | (simp <;> omega) | (simp <;> (have s := hbw.size; omega)) | (have s0 := hbw.size; (try simp at s0); (try simp); omega))
set_option maxHeartbeats 3200000 in
theorem refCopy4_none (a b c : Int) (w : World) : Calls Tryz.prog 17 #[.agg #[.int .i64 a, .int .i64 b, .int .i64 c, .slice none 0 0]] w fun e w' => ∃ g : Nat, e = .returned (.agg #[.int .i64 a, .int .i64 b, .int .i64 c, .slice (some ⟨g, 0, none⟩) 0 0]) ∧ Below w.heap.size w w' := by
  obtain ⟨i0, hi, hz0, hz1, hz2⟩ := info_parts infoU
  go_enter Tryz.func17, Tryz.ntmps17
  go_wp2
  obtain ⟨W0, hW0⟩ : ∃ W0, (w.alloc (.cells #[.int .i64 a, .int .i64 b, .int .i64 c, .slice none 0 0] 25)).alloc (.cells #[.int .i64 0, .int .i64 0, .int .i64 0, .slice none 0 0] 25) = W0 := ⟨_, rfl⟩
  have F0 : FW W0 w.heap.size a b c (.slice none 0 0) := by rw [← hW0]; exact ⟨by simp [go_sem], by simp [go_sem], by simp [go_sem], by simp [go_sem], fun j => by simp [go_sem], by simp <;> omega⟩
  have R0 : FW W0 (w.heap.size + 1) 0 0 0 (.slice none 0 0) := by rw [← hW0]; exact ⟨by simp [go_sem], by simp [go_sem], by simp [go_sem], by simp [go_sem], fun j => by simp [go_sem], by simp⟩
  have hB0 : Below w.heap.size w W0 := by rw [← hW0]; repeat (first | (with_reducible exact Below.refl _ _) | (with_reducible refine Below.setCell ?_ ?_ _) | (with_reducible refine Below.drew ?_) | (with_reducible refine Below.alloc ?_ ?_ _) | omega | (simp <;> omega))
  have hs0 : W0.heap.size = w.heap.size + 2 := by rw [← hW0]; simp
  rw [hW0]
  clear hW0
  obtain ⟨f0, f1, f2, f3, ff, fl⟩ := F0
  have RR := Lib.hid R0
  clear R0
  have own0 : (W0.alloc (.cells #[] 73)).ownsRow (w.heap.size + 2) 73 5 (.slice (some ⟨w.heap.size + 2, 0, none⟩) 0 0) 0 [] := by
    have := World.ownsRow_lit (base := W0.heap.size) (e := 73) (size := 5) W0 #[] 0 (Nat.le_refl _) (by unfold maxLen; omega) (by simp)
    rwa [hs0] at this
  have R1 : FW (W0.alloc (.cells #[] 73)).drew (w.heap.size + 1) 0 0 0 (.slice none 0 0) := RR.out.later (by repeat (first | (with_reducible exact Below.refl _ _) | (with_reducible refine Below.setCell ?_ ?_ _) | (with_reducible refine Below.drew ?_) | (with_reducible refine Below.alloc ?_ ?_ _) | omega | (simp <;> omega)))
  obtain ⟨d0, d1, d2, d3, df, dl⟩ := RR.out
  go_region_held3 (fun w' => w'.cell? ⟨w.heap.size, 0, none⟩ = some (.int .i64 a) ∧ w'.cell? ⟨w.heap.size, 1, none⟩ = some (.int .i64 b) ∧ w'.cell? ⟨w.heap.size, 2, none⟩ = some (.int .i64 c) ∧ w'.cell? ⟨w.heap.size, 3, none⟩ = some (.slice none 0 0))
    (go_keep)
    ((refine step_append_none (by rfl) _ _ _ (by rfl) (w.heap.size + 2) 73 i0 5 Tryz.underlying23 hi (.slice (some ⟨w.heap.size + 2, 0, none⟩) 0 0) 0 [] (by rfl) own0.drew (by rfl) ?_))
  go_wp2
  refine bodyPost_ret (v := .agg #[.int .i64 a, .int .i64 b, .int .i64 c, .slice (some ⟨w.heap.size + 2, 0, none⟩) 0 0]) ?_ rfl ⟨_, rfl, ?_⟩
  · simp [results, Tryz.results17, go_sem, d0, d1, d2, d3, dl]
  · repeat (first | (with_reducible exact Below.refl _ _) | (with_reducible refine Below.setCell ?_ ?_ _) | (with_reducible refine Below.drew ?_) | (with_reducible refine Below.alloc ?_ ?_ _) | (with_reducible refine Below.trans ?_ (Below.mono hB0 ?_)) | (with_reducible exact hB0.size) | omega | (simp <;> omega) | (simp <;> (have s := hB0.size; omega)) | (have s0 := hB0.size; (try simp at s0); (try simp); omega))
set_option maxHeartbeats 3200000 in
theorem refCopy4_empty (a b c : Int) (ad : Addr) (cap : Nat) (w : World) : Calls Tryz.prog 17 #[.agg #[.int .i64 a, .int .i64 b, .int .i64 c, .slice (some ad) 0 cap]] w fun e w' => ∃ g : Nat, e = .returned (.agg #[.int .i64 a, .int .i64 b, .int .i64 c, .slice (some ⟨g, 0, none⟩) 0 0]) ∧ Below w.heap.size w w' := by
  obtain ⟨i0, hi, hz0, hz1, hz2⟩ := info_parts infoU
  go_enter Tryz.func17, Tryz.ntmps17
  go_wp2
  obtain ⟨W0, hW0⟩ : ∃ W0, (w.alloc (.cells #[.int .i64 a, .int .i64 b, .int .i64 c, .slice (some ad) 0 cap] 25)).alloc (.cells #[.int .i64 0, .int .i64 0, .int .i64 0, .slice none 0 0] 25) = W0 := ⟨_, rfl⟩
  have F0 : FW W0 w.heap.size a b c (.slice (some ad) 0 cap) := by rw [← hW0]; exact ⟨by simp [go_sem], by simp [go_sem], by simp [go_sem], by simp [go_sem], fun j => by simp [go_sem], by simp <;> omega⟩
  have R0 : FW W0 (w.heap.size + 1) 0 0 0 (.slice none 0 0) := by rw [← hW0]; exact ⟨by simp [go_sem], by simp [go_sem], by simp [go_sem], by simp [go_sem], fun j => by simp [go_sem], by simp⟩
  have hB0 : Below w.heap.size w W0 := by rw [← hW0]; repeat (first | (with_reducible exact Below.refl _ _) | (with_reducible refine Below.setCell ?_ ?_ _) | (with_reducible refine Below.drew ?_) | (with_reducible refine Below.alloc ?_ ?_ _) | omega | (simp <;> omega))
  have hs0 : W0.heap.size = w.heap.size + 2 := by rw [← hW0]; simp
  rw [hW0]
  clear hW0
  obtain ⟨f0, f1, f2, f3, ff, fl⟩ := F0
  have RR := Lib.hid R0
  clear R0
  have own0 : (W0.alloc (.cells #[] 73)).ownsRow (w.heap.size + 2) 73 5 (.slice (some ⟨w.heap.size + 2, 0, none⟩) 0 0) 0 [] := by
    have := World.ownsRow_lit (base := W0.heap.size) (e := 73) (size := 5) W0 #[] 0 (Nat.le_refl _) (by unfold maxLen; omega) (by simp)
    rwa [hs0] at this
  have R1 : FW (W0.alloc (.cells #[] 73)).drew (w.heap.size + 1) 0 0 0 (.slice none 0 0) := RR.out.later (by repeat (first | (with_reducible exact Below.refl _ _) | (with_reducible refine Below.setCell ?_ ?_ _) | (with_reducible refine Below.drew ?_) | (with_reducible refine Below.alloc ?_ ?_ _) | omega | (simp <;> omega)))
  obtain ⟨d0, d1, d2, d3, df, dl⟩ := RR.out
  go_region_held3 (fun w' => w'.cell? ⟨w.heap.size, 0, none⟩ = some (.int .i64 a) ∧ w'.cell? ⟨w.heap.size, 1, none⟩ = some (.int .i64 b) ∧ w'.cell? ⟨w.heap.size, 2, none⟩ = some (.int .i64 c) ∧ w'.cell? ⟨w.heap.size, 3, none⟩ = some (.slice (some ad) 0 cap))
    (go_keep)
    ((refine step_append_zero (by rfl) _ _ _ (by rfl) 73 i0 5 Tryz.underlying23 hi hz1 (w.heap.size + 2) 0 0 0 (by rfl) (by omega) ad cap (by rfl) ?_))
  go_wp2
  refine bodyPost_ret (v := .agg #[.int .i64 a, .int .i64 b, .int .i64 c, .slice (some ⟨w.heap.size + 2, 0, none⟩) 0 0]) ?_ rfl ⟨_, rfl, ?_⟩
  · simp [results, Tryz.results17, go_sem, d0, d1, d2, d3, dl]
  · repeat (first | (with_reducible exact Below.refl _ _) | (with_reducible refine Below.setCell ?_ ?_ _) | (with_reducible refine Below.drew ?_) | (with_reducible refine Below.alloc ?_ ?_ _) | (with_reducible refine Below.trans ?_ (Below.mono hB0 ?_)) | (with_reducible exact hB0.size) | omega | (simp <;> omega) | (simp <;> (have s := hB0.size; omega)) | (have s0 := hB0.size; (try simp at s0); (try simp); omega))

/-- A field in new memory, whatever the slice. -/
theorem refCopy4_any (a b c : Int) (fo : Option Addr) (cap : Nat) (L : List Q) (w : World) (hl : LiesO w fo L) (hnil : fo = none → cap = 0) (hlen : L.length ≤ 200) : Calls Tryz.prog 17 #[.agg #[.int .i64 a, .int .i64 b, .int .i64 c, .slice fo L.length cap]] w fun e w' => ∃ g k : Nat, e = .returned (.agg #[.int .i64 a, .int .i64 b, .int .i64 c, .slice (some ⟨g, 0, none⟩) L.length k]) ∧ Lies w' g 0 L ∧ Below w.heap.size w w' := by
  by_cases hpos : 0 < L.length
  · rcases hl with rfl | ⟨bl, off, rfl, hl⟩
    · simp at hpos
    · exact (refCopy4_big a b c bl off cap L w hl hpos hlen).mono fun e w' ⟨g, k, he, hL, _, hb⟩ => ⟨g, k, he, hL.h, hb⟩
  · obtain rfl : L = [] := List.length_eq_zero_iff.1 (by omega)
    cases fo with
    | none =>
      obtain rfl := hnil rfl
      exact (refCopy4_none a b c w).mono fun e w' ⟨g, he, hb⟩ => ⟨g, 0, he, fun i x hx => by simp at hx, hb⟩
    | some ad => exact (refCopy4_empty a b c ad cap w).mono fun e w' ⟨g, he, hb⟩ => ⟨g, 0, he, fun i x hx => by simp at hx, hb⟩
end Go.Proofs.YtpfhjdmgkckjfaaGreatDoor
