/- Squares of paths, and the comparison of sums of loops, as the program makes them.
Conditions: those written at each theorem. -/
import Derived.Test.YtjidbajcnomceaaLoopW
namespace Go.Proofs.Ytjidbajcnomceaa
set_option linter.unusedVariables false
set_option linter.unusedSimpArgs false
set_option maxRecDepth 1000000
open Go.RowKit
open Um Tm Lm

set_option maxHeartbeats 3200000 in
theorem Square_ok (ao : Option Addr) (ca : Nat) (p : List Int) (w : World) (h : LiesOI w ao p) (hv : pe p = 0) :
    Calls Try.prog 26 #[.slice ao p.length ca] w fun e w' => RetP w.heap.size (plo (rawP [(1, p)] [(1, p)])) e w' ∧ Below w.heap.size w w' := by
  have H := Lib.hid h
  have hv1 : vT [(1, p)] = 0 := by simp [vT, tes, te, okC, hv]
  have HV := Lib.hid hv1
  clear h hv hv1
  go_enter Try.func26, Try.ntmps26
  have hT : Trs (w.alloc (.cells #[.int .i64 1, .slice ao p.length ca] 37)) (some ⟨w.heap.size, 0, none⟩) [⟨1, p, ao, ca⟩] := by
    refine ⟨.inr ⟨w.heap.size, 0, rfl, fun i x hx j v hv => ?_⟩, fun e he => ?_⟩
    · match i, hx with
      | 0, hx =>
        simp only [List.getElem?_cons_zero, Option.some.injEq] at hx
        subst hx
        match j, hv with
        | 0, hv => simp [ec] at hv; subst hv; simp [go_sem]
        | 1, hv => simp [ec] at hv; subst hv; simp [go_sem]
        | n + 2, hv => simp [ec] at hv
      | n + 1, hx => simp at hx
    · simp only [List.mem_cons, List.not_mem_nil, or_false] at he
      subst he
      exact H.out.later (by repeat (first | (with_reducible exact Below.refl _ _) | (with_reducible refine Below.setCell ?_ ?_ _) | (with_reducible refine Below.drew ?_) | (with_reducible refine Below.alloc ?_ ?_ _) | omega | (simp <;> omega)))
  have HT := Lib.hid hT
  clear hT
  have cT := fun W h h2 => Times_ok (some ⟨w.heap.size, 0, none⟩) (some ⟨w.heap.size, 0, none⟩) 1 1 [⟨1, p, ao, ca⟩] [⟨1, p, ao, ca⟩] W h h2 HV.out HV.out
  go_wp2_with (fail)
  refine (cT _ HT.out HT.out).mono ?_
  rintro e w1 ⟨hr, hw1⟩
  have hb : Below w.heap.size w w1 := by repeat (first | (with_reducible exact Below.refl _ _) | (with_reducible refine Below.setCell ?_ ?_ _) | (with_reducible refine Below.drew ?_) | (with_reducible refine Below.alloc ?_ ?_ _) | (with_reducible refine Below.trans ?_ (Below.mono hw1 ?_)) | (with_reducible exact hw1.size) | omega | (simp <;> omega) | (simp <;> (have s := hw1.size; omega)) | (have s0 := hw1.size; (try simp at s0); (try simp); omega))
  have hr2 : RetP w.heap.size (plo (rawP [(1, p)] [(1, p)])) e w1 := by
    rcases hr with ⟨h1, a, c, es, h2, h3, h4⟩ | h
    · exact .inl ⟨h1, a, c, es, h2, h3.le (by simp), h4⟩
    · exact .inr h
  rcases hr2 with ⟨h1, a, c, es, rfl, h3, h4⟩ | ⟨h1, rfl⟩
  · have HH := Lib.hid h1
    have H3 := Lib.hid h3
    have H4 := Lib.hid h4
    clear hr hw1 h1 h3 h4
    go_wp2
    go_ret2
    exact ⟨.inl ⟨HH.out, a, c, es, rfl, H3.out, H4.out⟩, hb⟩
  · have HH := Lib.hid h1
    clear hr hw1 h1
    go_wp2
    go_ret2
    exact ⟨.inr ⟨HH.out, rfl⟩, hb⟩
set_option maxHeartbeats 3200000 in
theorem Square_bad (ao : Option Addr) (ca : Nat) (p : List Int) (r : Int) (w : World) (h : LiesOI w ao p) (hr : pe p = r) (h0 : r ≠ 0) (hl : p.length ≤ 1000000) :
    Calls Try.prog 26 #[.slice ao p.length ca] w fun e w' => e = .returned (.tuple #[.slice none 0 0, .int .i64 r]) ∧ Below w.heap.size w w' := by
  have H := Lib.hid h
  have hv1 : vT [(1, p)] = r := by subst hr; simp [vT, tes, te, okC]; intro h; exact h.symm
  have HV := Lib.hid hv1
  clear h hr hv1
  go_enter Try.func26, Try.ntmps26
  have hT : Trs (w.alloc (.cells #[.int .i64 1, .slice ao p.length ca] 37)) (some ⟨w.heap.size, 0, none⟩) [⟨1, p, ao, ca⟩] := by
    refine ⟨.inr ⟨w.heap.size, 0, rfl, fun i x hx j v hv => ?_⟩, fun e he => ?_⟩
    · match i, hx with
      | 0, hx =>
        simp only [List.getElem?_cons_zero, Option.some.injEq] at hx
        subst hx
        match j, hv with
        | 0, hv => simp [ec] at hv; subst hv; simp [go_sem]
        | 1, hv => simp [ec] at hv; subst hv; simp [go_sem]
        | n + 2, hv => simp [ec] at hv
      | n + 1, hx => simp at hx
    · simp only [List.mem_cons, List.not_mem_nil, or_false] at he
      subst he
      exact H.out.later (by repeat (first | (with_reducible exact Below.refl _ _) | (with_reducible refine Below.setCell ?_ ?_ _) | (with_reducible refine Below.drew ?_) | (with_reducible refine Below.alloc ?_ ?_ _) | omega | (simp <;> omega)))
  have HT := Lib.hid hT
  clear hT
  have cT := fun W h h2 => Times_bad (some ⟨w.heap.size, 0, none⟩) (some ⟨w.heap.size, 0, none⟩) 1 1 [⟨1, p, ao, ca⟩] [⟨1, p, ao, ca⟩] r W h h2 (by rw [show tm [(⟨1, p, ao, ca⟩ : E)] = [(1, p)] from rfl, HV.out, if_neg h0]) h0 (by simp) (by simpa using hl) (by simp) (by simpa using hl)
  go_wp2_with (fail)
  refine (cT _ HT.out HT.out).mono ?_
  rintro e w1 ⟨rfl, hw1⟩
  go_wp2
  go_ret2
  exact ⟨rfl, by repeat (first | (with_reducible exact Below.refl _ _) | (with_reducible refine Below.setCell ?_ ?_ _) | (with_reducible refine Below.drew ?_) | (with_reducible refine Below.alloc ?_ ?_ _) | (with_reducible refine Below.trans ?_ (Below.mono hw1 ?_)) | (with_reducible exact hw1.size) | omega | (simp <;> omega) | (simp <;> (have s := hw1.size; omega)) | (have s0 := hw1.size; (try simp at s0); (try simp); omega))⟩

set_option maxHeartbeats 3200000 in
theorem eqI_some (b1 o1 c1 b2 o2 c2 n : Nat) (l1 l2 : List Int) (w : World) (r : Bool) (h1 : LiesI w b1 o1 l1) (h2 : LiesI w b2 o2 l2) (hn1 : l1.length = n) (hn2 : l2.length = n) (hlen : n ≤ 1000000) (hr : r = decide (l1 = l2)) :
    Calls Try.prog 73 #[.slice (some ⟨b1, o1, none⟩) n c1, .slice (some ⟨b2, o2, none⟩) n c2] w fun e w' => e = .returned (.bool r) ∧ Below w.heap.size w w' := by
  have H1 := Lib.hid h1
  have H2 := Lib.hid h2
  have HR := Lib.hid hr
  have N1 := Lib.hid hn1
  have N2 := Lib.hid hn2
  clear h1 h2 hr hn1 hn2
  have kc := @Tail.cell_re
  have kc1 : ∀ (W : World) (o : Obj) (d : Nat) (os : Array Obj) (a : Addr), a.block ≤ W.heap.size → (Sort.grow (redrawn (W.alloc o) d) os).cell? a = (W.alloc o).cell? a := fun W o d os a h => Tail.cell_re (W.alloc o) d os a (Nat.lt_of_le_of_lt h (by simp))
  go_enter Try.func73, Try.ntmps73
  go_wp2
  go_loopw [5, 13] (fun _ q wr => ∃ k : Nat, k ≤ n ∧ q = .int .i64 k ∧ Hid (l1.take k = l2.take k) ∧ Below w.heap.size w wr) (fun _ q _ => n - (intOf q).toNat)
  case atStart => exact ⟨0, by omega, rfl, Lib.hid rfl, Below.refl _ _⟩
  case round =>
    obtain ⟨k, hk, rfl, heq, hb⟩ := hrel
    by_cases hlt : k < n
    · have j1 : (k : Int) < (n : Int) := by omega
      have i1 : k < l1.length := by have := N1.out; omega
      have i2 : k < l2.length := by have := N2.out; omega
      have t1 : l1.take (k + 1) = l1.take k ++ [l1[k]] := List.take_succ_eq_append_getElem i1
      have t2 : l2.take (k + 1) = l2.take k ++ [l2[k]] := List.take_succ_eq_append_getElem i2
      have x0 := H1.out.later hb k _ (List.getElem?_eq_getElem i1)
      have y0 := H2.out.later hb k _ (List.getElem?_eq_getElem i2)
      have lb1 : b1 < wr.heap.size := World.block_lt_of_cell? wr _ x0
      have lb2 : b2 < wr.heap.size := World.block_lt_of_cell? wr _ y0
      generalize l1[k] = p0 at *
      generalize l2[k] = q0 at *
      have T1 := Lib.hid t1
      have T2 := Lib.hid t2
      clear t1 t2 i1 i2
      by_cases he : p0 = q0
      · subst he
        go_wp2
        refine Tail.region_below (by kernel_rfl) (by kernel_rfl) ?_
        repeat (go_big_quiet_step (fail))
        refine wpQuiet_nil ?_
        intro w1 hw1
        go_wp2
        exact ⟨⟨k + 1, by omega, by go_num, Lib.hid (by rw [T1.out, T2.out, heq.out]), by repeat (first | (with_reducible exact Below.refl _ _) | (with_reducible refine Below.setCell ?_ ?_ _) | (with_reducible refine Below.drew ?_) | (with_reducible refine Below.alloc ?_ ?_ _) | (with_reducible refine Below.trans ?_ (Below.mono hw1 ?_)) | (with_reducible refine Below.trans ?_ (Below.mono hb ?_)) | (with_reducible exact hw1.size) | (with_reducible exact hb.size) | omega | (simp <;> omega) | (simp <;> (have s := hw1.size; omega)) | (simp <;> (have s := hb.size; omega)) | (have s0 := hw1.size; (try simp at s0); have s1 := hb.size; (try simp at s1); (try simp); omega))⟩, by simp [intOf]; omega⟩
      · have hd : (p0 != q0) = true := by simpa using he
        have hd2 : (p0 == q0) = false := by simpa using he
        have hf : r = false := by
          rw [HR.out]
          refine decide_eq_false fun h => he ?_
          have h1 := T1.out
          rw [h, T2.out] at h1
          have := List.append_cancel_left h1
          simpa using this.symm
        subst hf
        clear he
        go_wp2
        refine Tail.region_below (by kernel_rfl) (by kernel_rfl) ?_
        repeat (go_big_quiet_step (fail))
        refine wpQuiet_nil ?_
        intro w1 hw1
        go_wp2
        go_ret
        exact ⟨rfl, by repeat (first | (with_reducible exact Below.refl _ _) | (with_reducible refine Below.setCell ?_ ?_ _) | (with_reducible refine Below.drew ?_) | (with_reducible refine Below.alloc ?_ ?_ _) | (with_reducible refine Below.trans ?_ (Below.mono hw1 ?_)) | (with_reducible refine Below.trans ?_ (Below.mono hb ?_)) | (with_reducible exact hw1.size) | (with_reducible exact hb.size) | omega | (simp <;> omega) | (simp <;> (have s := hw1.size; omega)) | (simp <;> (have s := hb.size; omega)) | (have s0 := hw1.size; (try simp at s0); have s1 := hb.size; (try simp at s1); (try simp); omega))⟩
    · have hf : r = true := by
        rw [HR.out]
        refine decide_eq_true ?_
        have := heq.out
        rwa [List.take_of_length_le (by have := N1.out; omega), List.take_of_length_le (by have := N2.out; omega)] at this
      subst hf
      obtain rfl : k = n := by omega
      go_wp2
      go_ret
      exact ⟨rfl, hb⟩
set_option maxHeartbeats 800000 in
theorem eqI_len (a1 a2 : Option Addr) (c1 c2 n1 n2 : Nat) (w : World) (hn : n1 ≠ n2) :
    Calls Try.prog 73 #[.slice a1 n1 c1, .slice a2 n2 c2] w fun e w' => e = .returned (.bool false) ∧ Below w.heap.size w w' := by
  have hn' : ((n1 : Int) != (n2 : Int)) = true := by simp; omega
  clear hn
  go_enter Try.func73, Try.ntmps73
  go_wp2
  go_ret
  exact ⟨rfl, Below.refl _ _⟩
set_option maxHeartbeats 800000 in
theorem eqI_nil (a1 a2 : Option Addr) (c1 c2 : Nat) (w : World) :
    Calls Try.prog 73 #[.slice a1 0 c1, .slice a2 0 c2] w fun e w' => e = .returned (.bool true) ∧ Below w.heap.size w w' := by
  go_enter Try.func73, Try.ntmps73
  go_wp2
  refine wp_loop_rounds 1 ?_
  rw [rounds_succ]
  go_wp2
  go_ret
  exact ⟨rfl, Below.refl _ _⟩
theorem eqI_any (a1 a2 : Option Addr) (c1 c2 : Nat) (l1 l2 : List Int) (w : World) (h1 : LiesOI w a1 l1) (h2 : LiesOI w a2 l2) (hlen : l1.length ≤ 1000000) :
    Calls Try.prog 73 #[.slice a1 l1.length c1, .slice a2 l2.length c2] w fun e w' => e = .returned (.bool (decide (l1 = l2))) ∧ Below w.heap.size w w' := by
  by_cases hn : l1.length = l2.length
  · rcases h1 with rfl | ⟨b1, o1, rfl, h1⟩
    · have : l2 = [] := List.length_eq_zero_iff.1 hn.symm
      subst this
      exact eqI_nil a1 a2 c1 c2 w
    · rcases h2 with rfl | ⟨b2, o2, rfl, h2⟩
      · have : l1 = [] := List.length_eq_zero_iff.1 hn
        subst this
        exact eqI_nil _ a2 c1 c2 w
      · have := eqI_some b1 o1 c1 b2 o2 c2 l1.length l1 l2 w _ h1 h2 rfl hn.symm hlen rfl
        rw [← hn]
        exact this
  · have hd : decide (l1 = l2) = false := decide_eq_false fun h => hn (by rw [h])
    rw [hd]
    exact eqI_len a1 a2 c1 c2 _ _ w hn
set_option maxHeartbeats 3200000 in
theorem areEqual_any (c1 c2 : Int) (a1 a2 : Option Addr) (k1 k2 : Nat) (p q : List Int) (w : World) (h1 : LiesOI w a1 p) (h2 : LiesOI w a2 q) (hlen : p.length ≤ 1000000) :
    Calls Try.prog 53 #[.agg #[.int .i64 c1, .slice a1 p.length k1], .agg #[.int .i64 c2, .slice a2 q.length k2]] w fun e w' => e = .returned (.bool (decide (c1 = c2 ∧ p = q))) ∧ Below w.heap.size w w' := by
  have H1 := Lib.hid h1
  have H2 := Lib.hid h2
  have cE := fun W h1 h2 => eqI_any a1 a2 k1 k2 p q W h1 h2 hlen
  clear h1 h2
  by_cases hc : c1 = c2
  · subst hc
    have e : decide (c1 = c1 ∧ p = q) = decide (p = q) := by simp
    rw [e]
    generalize decide (p = q) = r at *
    go_enter Try.func53, Try.ntmps53
    go_wp2_with ((with_reducible refine (cE _ (H1.out.later (by repeat (first | (with_reducible exact Below.refl _ _) | (with_reducible refine Below.setCell ?_ ?_ _) | (with_reducible refine Below.drew ?_) | (with_reducible refine Below.alloc ?_ ?_ _) | omega | (simp <;> omega)))) (H2.out.later (by repeat (first | (with_reducible exact Below.refl _ _) | (with_reducible refine Below.setCell ?_ ?_ _) | (with_reducible refine Below.drew ?_) | (with_reducible refine Below.alloc ?_ ?_ _) | omega | (simp <;> omega))))).mono ?_); rintro e w1 ⟨rfl, hw1⟩)
    go_ret
    exact ⟨rfl, by repeat (first | (with_reducible exact Below.refl _ _) | (with_reducible refine Below.setCell ?_ ?_ _) | (with_reducible refine Below.drew ?_) | (with_reducible refine Below.alloc ?_ ?_ _) | (with_reducible refine Below.trans ?_ (Below.mono hw1 ?_)) | (with_reducible exact hw1.size) | omega | (simp <;> omega) | (simp <;> (have s := hw1.size; omega)) | (have s0 := hw1.size; (try simp at s0); (try simp); omega))⟩
  · have e : decide (c1 = c2 ∧ p = q) = false := by simp [hc]
    rw [e]
    have hc2 : (c1 == c2) = false := by simpa using hc
    clear hc
    go_enter Try.func53, Try.ntmps53
    go_wp2_with (fail)
    go_ret
    exact ⟨rfl, by repeat (first | (with_reducible exact Below.refl _ _) | (with_reducible refine Below.setCell ?_ ?_ _) | (with_reducible refine Below.drew ?_) | (with_reducible refine Below.alloc ?_ ?_ _) | omega | (simp <;> omega))⟩
end Go.Proofs.Ytjidbajcnomceaa
