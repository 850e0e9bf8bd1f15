/- A field, copied, as the document's answers of layer 4 make it.
Conditions: the field lies in memory and has at most 100 links. -/
import Derived.Test.YtpfhjdmgkckjfaaGreatDoorATabB
import Derived.Test.YtpfhjdmgkckjfaaGreatDoorAThrM
namespace Go.Proofs.YtpfhjdmgkckjfaaGreatDoor
set_option linter.unusedVariables false
set_option linter.unusedSimpArgs false
set_option maxRecDepth 1000000
open Go.RowKit
open Um Tm

set_option maxHeartbeats 3200000 in
theorem refCopy4_some (a b c : Int) (bl off cap : Nat) (L : List Q) (w : World) (hl : Lies w bl off L) (hpos : 0 < L.length) (hlen : L.length ≤ 100) : Calls Tryz.prog 17 #[.agg #[.int .i64 a, .int .i64 b, .int .i64 c, .slice (some ⟨bl, off, none⟩) L.length cap]] w fun e w' => ∃ g k : Nat, e = .returned (.agg #[.int .i64 a, .int .i64 b, .int .i64 c, .slice (some ⟨g, 0, none⟩) L.length k]) ∧ LBox w' g L ∧ w.heap.size ≤ g ∧ Below w.heap.size w w' := by
  obtain ⟨i0, hi, hz0, hz1, hz2⟩ := info_parts infoU
  have H := Lib.hid hl
  clear hl
  go_enter Tryz.func17, Tryz.ntmps17
  go_wp2
  obtain ⟨W0, hW0⟩ : ∃ W0, (w.alloc (.cells #[.int .i64 a, .int .i64 b, .int .i64 c, .slice (some ⟨bl, off, none⟩) L.length cap] 25)).alloc (.cells #[.int .i64 0, .int .i64 0, .int .i64 0, .slice none 0 0] 25) = W0 := ⟨_, rfl⟩
  have F0 : FW W0 w.heap.size a b c (.slice (some ⟨bl, off, none⟩) L.length cap) := by rw [← hW0]; exact ⟨by simp [go_sem], by simp [go_sem], by simp [go_sem], by simp [go_sem], fun j => by simp [go_sem], by simp <;> omega⟩
  have R0 : FW W0 (w.heap.size + 1) 0 0 0 (.slice none 0 0) := by rw [← hW0]; exact ⟨by simp [go_sem], by simp [go_sem], by simp [go_sem], by simp [go_sem], fun j => by simp [go_sem], by simp⟩
  have hB0 : Below w.heap.size w W0 := by rw [← hW0]; repeat (first | (with_reducible exact Below.refl _ _) | (with_reducible refine Below.setCell ?_ ?_ _) | (with_reducible refine Below.drew ?_) | (with_reducible refine Below.alloc ?_ ?_ _) | omega | (simp <;> omega))
  have hs0 : W0.heap.size = w.heap.size + 2 := by rw [← hW0]; simp
  rw [hW0]
  clear hW0
  obtain ⟨f0, f1, f2, f3, ff, fl⟩ := F0
  have RR := Lib.hid R0
  clear R0
  have own0 : (W0.alloc (.cells #[] 73)).ownsRow (w.heap.size + 2) 73 5 (.slice (some ⟨w.heap.size + 2, 0, none⟩) 0 0) 0 [] := by
    have := World.ownsRow_lit (base := W0.heap.size) (e := 73) (size := 5) W0 #[] 0 (Nat.le_refl _) (by unfold maxLen; omega) (by simp)
    rwa [hs0] at this
  have R1 : FW (W0.alloc (.cells #[] 73)).drew (w.heap.size + 1) 0 0 0 (.slice none 0 0) := RR.out.later (by repeat (first | (with_reducible exact Below.refl _ _) | (with_reducible refine Below.setCell ?_ ?_ _) | (with_reducible refine Below.drew ?_) | (with_reducible refine Below.alloc ?_ ?_ _) | omega | (simp <;> omega)))
  have RR1 := Lib.hid R1
  clear R1
  go_region_held3 (fun w' => w'.cell? ⟨w.heap.size, 0, none⟩ = some (.int .i64 a) ∧ w'.cell? ⟨w.heap.size, 1, none⟩ = some (.int .i64 b) ∧ w'.cell? ⟨w.heap.size, 2, none⟩ = some (.int .i64 c) ∧ w'.cell? ⟨w.heap.size, 3, none⟩ = some (.slice (some ⟨bl, off, none⟩) L.length cap))
    (first
      | go_keep
      | (go_split_ands
         refine ⟨?_, ?_, ?_, ?_⟩
         · (rw [hgrow.cell_far _ (by simp <;> omega) (by simp [Value.ownBlock] <;> omega)]; assumption)
         · (rw [hgrow.cell_far _ (by simp <;> omega) (by simp [Value.ownBlock] <;> omega)]; assumption)
         · (rw [hgrow.cell_far _ (by simp <;> omega) (by simp [Value.ownBlock] <;> omega)]; assumption)
         · (rw [hgrow.cell_far _ (by simp <;> omega) (by simp [Value.ownBlock] <;> omega)]; assumption)))
    ((refine step_append_lies _ (by rfl) _ _ _ (by rfl) (w.heap.size + 2) 73 i0 _ 5 40 Tryz.underlying23 hi hz0 hz1 hz2 rfl (by omega) (.slice (some ⟨w.heap.size + 2, 0, none⟩) 0 0) 0 [] (by rfl) own0.drew
        ⟨bl, off, none⟩ L.length cap (L.flatMap uc) (by rfl) (flat_len uc 5 uc_len L) (lies_news (H.out.later (by repeat (first | (with_reducible exact Below.refl _ _) | (with_reducible refine Below.setCell ?_ ?_ _) | (with_reducible refine Below.drew ?_) | (with_reducible refine Below.alloc ?_ ?_ _) | (with_reducible refine Below.trans ?_ (Below.mono hB0 ?_)) | (with_reducible exact hB0.size) | omega | (simp <;> omega) | (simp <;> (have s := hB0.size; omega)) | (have s0 := hB0.size; (try simp at s0); (try simp); omega))))) (lies_ones L)
        hpos (by unfold maxLen; omega) (by omega) (by simp; omega) (w.heap.size + 3) (by simp; omega) ?_; intro gg cap1 w1 hown1 hgrow hat hlt; obtain ⟨d0, d1, d2, d3, df, dl⟩ := RR1.out.grown hgrow (by simp [Value.ownBlock])))
  obtain ⟨LB, hgb⟩ := owned_LBox rfl (by simpa using hown1)
  have hbw : Below w.heap.size w w1 := (show Below w.heap.size w (W0.alloc (.cells #[] 73)).drew by repeat (first | (with_reducible exact Below.refl _ _) | (with_reducible refine Below.setCell ?_ ?_ _) | (with_reducible refine Below.drew ?_) | (with_reducible refine Below.alloc ?_ ?_ _) | (with_reducible refine Below.trans ?_ (Below.mono hB0 ?_)) | (with_reducible exact hB0.size) | omega | (simp <;> omega) | (simp <;> (have s := hB0.size; omega)) | (have s0 := hB0.size; (try simp at s0); (try simp); omega))).grown hgrow (by simp; omega) (fun j hj => by simp [Value.ownBlock] at hj; omega)
  clear hown1 hgrow own0 RR1 RR H hB0 f0 f1 f2 f3
  go_wp2
  have G1 := grown_setCells (w.heap.size + 1) [.int .i64 a, .int .i64 b, .int .i64 c, .slice (some ⟨gg, 0, none⟩) L.length cap1] 0 w1
  refine bodyPost_ret (v := .agg #[.int .i64 a, .int .i64 b, .int .i64 c, .slice (some ⟨gg, 0, none⟩) L.length cap1]) ?_ rfl ⟨gg, cap1, rfl, ?_, by omega, ?_⟩
  · simp [results, Tryz.results17, go_sem, d0, d1, d2, d3]
  · exact LB.grown G1 (by simp; omega)
  · repeat (first | (with_reducible exact Below.refl _ _) | (with_reducible refine Below.setCell ?_ ?_ _) | (with_reducible refine Below.drew ?_) | (with_reducible refine Below.alloc ?_ ?_ _) | (with_reducible refine Below.trans ?_ (Below.mono hbw ?_)) | (with_reducible exact hbw.size) | omega | (simp <;> omega) | (simp <;> (have s := hbw.size; omega)) | (have s0 := hbw.size; (try simp at s0); (try simp); omega))
end Go.Proofs.YtpfhjdmgkckjfaaGreatDoor

namespace Go.Proofs.YtpfhjdmgkckjfaaGreatDoor
set_option linter.unusedVariables false
set_option linter.unusedSimpArgs false
set_option maxRecDepth 1000000
open Go.RowKit

set_option maxHeartbeats 1600000 in
theorem sameInts4_some (b1 o1 c1 b2 o2 c2 : Nat) (l1 l2 : List Int) (w : World) (r : Bool) (h1 : LiesI w b1 o1 l1) (h2 : LiesI w b2 o2 l2) (hn : l1.length = l2.length) (hlen : l1.length ≤ 1000000) (hr : r = decide (l1 = l2)) :
    Calls Tryz.prog 39 #[.slice (some ⟨b1, o1, none⟩) l1.length c1, .slice (some ⟨b2, o2, none⟩) l2.length c2] w fun e w' => e = .returned (.bool r) ∧ Below w.heap.size w w' := by
  have H1 := Lib.hid h1
  have H2 := Lib.hid h2
  have HR := Lib.hid hr
  have hn' : ((l1.length : Int) != (l2.length : Int)) = false := by simp [hn]
  have HN := Lib.hid hn
  clear h1 h2 hr hn
  have kc := @Tail.cell_re
  have kc1 : ∀ (W : World) (o : Obj) (d : Nat) (os : Array Obj) (a : Addr), a.block ≤ W.heap.size → (Sort.grow (redrawn (W.alloc o) d) os).cell? a = (W.alloc o).cell? a := fun W o d os a h => Tail.cell_re (W.alloc o) d os a (Nat.lt_of_le_of_lt h (by simp))
  go_enter Tryz.func39, Tryz.ntmps39
  go_wp2
  go_loopw [5] (fun q wr => ∃ k : Nat, k ≤ l1.length ∧ q = .int .i64 k ∧ Hid (l1.take k = l2.take k) ∧ Below w.heap.size w wr) (fun q _ => l1.length - (intOf q).toNat)
  case atStart => exact ⟨0, by omega, rfl, Lib.hid rfl, Below.refl _ _⟩
  case round =>
    obtain ⟨k, hk, rfl, heq, hb⟩ := hrel
    by_cases hlt : k < l1.length
    · have hlt2 : k < l2.length := by have := HN.out; omega
      have x1 := H1.out.later hb k _ (List.getElem?_eq_getElem hlt)
      have x2 := H2.out.later hb k _ (List.getElem?_eq_getElem hlt2)
      have lb1 : b1 < wr.heap.size := World.block_lt_of_cell? wr _ x1
      have lb2 : b2 < wr.heap.size := World.block_lt_of_cell? wr _ x2
      have t1 := List.take_succ_eq_append_getElem hlt
      have t2 := List.take_succ_eq_append_getElem hlt2
      have g1 : l1[k]? = some l1[k] := List.getElem?_eq_getElem hlt
      have g2 : l2[k]? = some l2[k] := List.getElem?_eq_getElem hlt2
      generalize l1[k] = p at *
      generalize l2[k] = q at *
      have T1 := Lib.hid t1
      have T2 := Lib.hid t2
      have G1 := Lib.hid g1
      have G2 := Lib.hid g2
      have i1 : (k : Int) < (l1.length : Int) := by omega
      have i2 : (k : Int) < (l2.length : Int) := by omega
      clear t1 t2 g1 g2
      by_cases he : p = q
      · subst he
        go_wp2
        refine Tail.region_below (by kernel_rfl) (by kernel_rfl) ?_
        repeat (go_big_quiet_step (fail))
        refine wpQuiet_nil ?_
        intro w1 hw1
        go_wp2
        exact ⟨⟨k + 1, by omega, by go_num, Lib.hid (by rw [T1.out, T2.out, heq.out]), by repeat (first | (with_reducible exact Below.refl _ _) | (with_reducible refine Below.setCell ?_ ?_ _) | (with_reducible refine Below.drew ?_) | (with_reducible refine Below.alloc ?_ ?_ _) | (with_reducible refine Below.trans ?_ (Below.mono hw1 ?_)) | (with_reducible refine Below.trans ?_ (Below.mono hb ?_)) | (with_reducible exact hw1.size) | (with_reducible exact hb.size) | omega | (simp <;> omega) | (simp <;> (have s := hw1.size; omega)) | (simp <;> (have s := hb.size; omega)) | (have s0 := hw1.size; (try simp at s0); have s1 := hb.size; (try simp at s1); (try simp); omega))⟩, by simp [intOf]; omega⟩
      · have he' : (p != q) = true := by simpa using he
        have hf : r = false := by
          rw [HR.out]
          refine decide_eq_false fun h => he ?_
          have := G1.out
          rw [h, G2.out] at this
          simpa using this.symm
        subst hf
        clear he
        go_wp2
        refine Tail.region_below (by kernel_rfl) (by kernel_rfl) ?_
        repeat (go_big_quiet_step (fail))
        refine wpQuiet_nil ?_
        intro w1 hw1
        go_wp2
        go_ret
        exact ⟨rfl, by repeat (first | (with_reducible exact Below.refl _ _) | (with_reducible refine Below.setCell ?_ ?_ _) | (with_reducible refine Below.drew ?_) | (with_reducible refine Below.alloc ?_ ?_ _) | (with_reducible refine Below.trans ?_ (Below.mono hw1 ?_)) | (with_reducible refine Below.trans ?_ (Below.mono hb ?_)) | (with_reducible exact hw1.size) | (with_reducible exact hb.size) | omega | (simp <;> omega) | (simp <;> (have s := hw1.size; omega)) | (simp <;> (have s := hb.size; omega)) | (have s0 := hw1.size; (try simp at s0); have s1 := hb.size; (try simp at s1); (try simp); omega))⟩
    · have hf : r = true := by
        rw [HR.out]
        refine decide_eq_true ?_
        have := heq.out
        rwa [List.take_of_length_le (by omega), List.take_of_length_le (by have := HN.out; omega)] at this
      subst hf
      obtain rfl : k = l1.length := by omega
      go_wp2
      go_ret
      exact ⟨rfl, hb⟩

set_option maxHeartbeats 800000 in
theorem sameInts4_len (a1 a2 : Option Addr) (c1 c2 n1 n2 : Nat) (w : World) (hn : n1 ≠ n2) :
    Calls Tryz.prog 39 #[.slice a1 n1 c1, .slice a2 n2 c2] w fun e w' => e = .returned (.bool false) ∧ Below w.heap.size w w' := by
  have hn' : ((n1 : Int) != (n2 : Int)) = true := by simp; omega
  clear hn
  go_enter Tryz.func39, Tryz.ntmps39
  go_wp2
  go_ret
  exact ⟨rfl, Below.refl _ _⟩
set_option maxHeartbeats 800000 in
theorem sameInts4_nil (a1 a2 : Option Addr) (c1 c2 : Nat) (w : World) :
    Calls Tryz.prog 39 #[.slice a1 0 c1, .slice a2 0 c2] w fun e w' => e = .returned (.bool true) ∧ Below w.heap.size w w' := by
  go_enter Tryz.func39, Tryz.ntmps39
  go_wp2
  refine wp_loop_rounds 1 ?_
  rw [rounds_succ]
  go_wp2
  go_ret
  exact ⟨rfl, Below.refl _ _⟩
/-- Two lists of integers are compared. -/
theorem sameInts4_any (a1 a2 : Option Addr) (c1 c2 : Nat) (l1 l2 : List Int) (w : World) (h1 : LiesOI w a1 l1) (h2 : LiesOI w a2 l2) (hlen : l1.length ≤ 1000000) :
    Calls Tryz.prog 39 #[.slice a1 l1.length c1, .slice a2 l2.length c2] w fun e w' => e = .returned (.bool (decide (l1 = l2))) ∧ Below w.heap.size w w' := by
  by_cases hn : l1.length = l2.length
  · rcases h1 with rfl | ⟨b1, o1, rfl, h1⟩
    · have : l2 = [] := List.length_eq_zero_iff.1 hn.symm
      subst this
      exact sameInts4_nil a1 a2 c1 c2 w
    · rcases h2 with rfl | ⟨b2, o2, rfl, h2⟩
      · have : l1 = [] := List.length_eq_zero_iff.1 hn
        subst this
        exact sameInts4_nil _ a2 c1 c2 w
      · exact sameInts4_some b1 o1 c1 b2 o2 c2 l1 l2 w _ h1 h2 hn hlen rfl
  · have hd : decide (l1 = l2) = false := decide_eq_false fun h => hn (by rw [h])
    rw [hd]
    exact sameInts4_len a1 a2 c1 c2 _ _ w hn
end Go.Proofs.YtpfhjdmgkckjfaaGreatDoor
