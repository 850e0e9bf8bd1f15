/- Squares of paths, and the comparison of sums of loops, as the program makes them.
Conditions: those written at each theorem. -/
import Derived.Test.YtjidbajcnomceaaGreatLoopW
namespace Go.Proofs.YtjidbajcnomceaaGreat
set_option linter.unusedVariables false
set_option linter.unusedSimpArgs false
set_option maxRecDepth 1000000
open Go.RowKit
open Um Tm Lm

set_option maxHeartbeats 3200000 in
theorem Square_ok (ao : Option Addr) (ca : Nat) (p : List Int) (w : World) (h : LiesOI w ao p) (hv : pe p = 0) :
    Calls Tryz.prog 28 #[.slice ao p.length ca] w fun e w' => RetP w.heap.size (plo (rawP [(1, p)] [(1, p)])) e w' ∧ Below w.heap.size w w' := by
  have H := Lib.hid h
  have hv1 : vT [(1, p)] = 0 := by simp [vT, tes, te, okC, hv]
  have HV := Lib.hid hv1
  clear h hv hv1
  go_enter Tryz.func28, Tryz.ntmps28
  have hT : Trs (w.alloc (.cells #[.int .i64 1, .slice ao p.length ca] 60)) (some ⟨w.heap.size, 0, none⟩) [⟨1, p, ao, ca⟩] := by
    refine ⟨.inr ⟨w.heap.size, 0, rfl, fun i x hx j v hv => ?_⟩, fun e he => ?_⟩
    · match i, hx with
      | 0, hx =>
        simp only [List.getElem?_cons_zero, Option.some.injEq] at hx
        subst hx
        match j, hv with
        | 0, hv => simp [ec] at hv; subst hv; simp [go_sem]
        | 1, hv => simp [ec] at hv; subst hv; simp [go_sem]
        | n + 2, hv => simp [ec] at hv
      | n + 1, hx => simp at hx
    · simp only [List.mem_cons, List.not_mem_nil, or_false] at he
      subst he
      exact H.out.later (by repeat (first | (with_reducible exact Below.refl _ _) | (with_reducible refine Below.setCell ?_ ?_ _) | (with_reducible refine Below.drew ?_) | (with_reducible refine Below.alloc ?_ ?_ _) | omega | (simp <;> omega)))
  have HT := Lib.hid hT
  clear hT
  have cT := fun W h h2 => Times_ok (some ⟨w.heap.size, 0, none⟩) (some ⟨w.heap.size, 0, none⟩) 1 1 [⟨1, p, ao, ca⟩] [⟨1, p, ao, ca⟩] W h h2 HV.out HV.out
  go_wp2_with (fail)
  refine (cT _ HT.out HT.out).mono ?_
  rintro e w1 ⟨hr, hw1⟩
  have hb : Below w.heap.size w w1 := by repeat (first | (with_reducible exact Below.refl _ _) | (with_reducible refine Below.setCell ?_ ?_ _) | (with_reducible refine Below.drew ?_) | (with_reducible refine Below.alloc ?_ ?_ _) | (with_reducible refine Below.trans ?_ (Below.mono hw1 ?_)) | (with_reducible exact hw1.size) | omega | (simp <;> omega) | (simp <;> (have s := hw1.size; omega)) | (have s0 := hw1.size; (try simp at s0); (try simp); omega))
  have hr2 : RetP w.heap.size (plo (rawP [(1, p)] [(1, p)])) e w1 := by
    rcases hr with ⟨h1, a, c, es, h2, h3, h4⟩ | h
    · exact .inl ⟨h1, a, c, es, h2, h3.le (by simp), h4⟩
    · exact .inr h
  rcases hr2 with ⟨h1, a, c, es, rfl, h3, h4⟩ | ⟨h1, rfl⟩
  · have HH := Lib.hid h1
    have H3 := Lib.hid h3
    have H4 := Lib.hid h4
    clear hr hw1 h1 h3 h4
    go_wp2
    go_ret2
    exact ⟨.inl ⟨HH.out, a, c, es, rfl, H3.out, H4.out⟩, hb⟩
  · have HH := Lib.hid h1
    clear hr hw1 h1
    go_wp2
    go_ret2
    exact ⟨.inr ⟨HH.out, rfl⟩, hb⟩
set_option maxHeartbeats 3200000 in
theorem Square_bad (ao : Option Addr) (ca : Nat) (p : List Int) (r : Int) (w : World) (h : LiesOI w ao p) (hr : pe p = r) (h0 : r ≠ 0) (hl : p.length ≤ 1000000) :
    Calls Tryz.prog 28 #[.slice ao p.length ca] w fun e w' => e = .returned (.tuple #[.slice none 0 0, .int .i64 r]) ∧ Below w.heap.size w w' := by
  have H := Lib.hid h
  have hv1 : vT [(1, p)] = r := by subst hr; simp [vT, tes, te, okC]; intro h; exact h.symm
  have HV := Lib.hid hv1
  clear h hr hv1
  go_enter Tryz.func28, Tryz.ntmps28
  have hT : Trs (w.alloc (.cells #[.int .i64 1, .slice ao p.length ca] 60)) (some ⟨w.heap.size, 0, none⟩) [⟨1, p, ao, ca⟩] := by
    refine ⟨.inr ⟨w.heap.size, 0, rfl, fun i x hx j v hv => ?_⟩, fun e he => ?_⟩
    · match i, hx with
      | 0, hx =>
        simp only [List.getElem?_cons_zero, Option.some.injEq] at hx
        subst hx
        match j, hv with
        | 0, hv => simp [ec] at hv; subst hv; simp [go_sem]
        | 1, hv => simp [ec] at hv; subst hv; simp [go_sem]
        | n + 2, hv => simp [ec] at hv
      | n + 1, hx => simp at hx
    · simp only [List.mem_cons, List.not_mem_nil, or_false] at he
      subst he
      exact H.out.later (by repeat (first | (with_reducible exact Below.refl _ _) | (with_reducible refine Below.setCell ?_ ?_ _) | (with_reducible refine Below.drew ?_) | (with_reducible refine Below.alloc ?_ ?_ _) | omega | (simp <;> omega)))
  have HT := Lib.hid hT
  clear hT
  have cT := fun W h h2 => Times_bad (some ⟨w.heap.size, 0, none⟩) (some ⟨w.heap.size, 0, none⟩) 1 1 [⟨1, p, ao, ca⟩] [⟨1, p, ao, ca⟩] r W h h2 (by rw [show tm [(⟨1, p, ao, ca⟩ : E)] = [(1, p)] from rfl, HV.out, if_neg h0]) h0 (by simp) (by simpa using hl) (by simp) (by simpa using hl)
  go_wp2_with (fail)
  refine (cT _ HT.out HT.out).mono ?_
  rintro e w1 ⟨rfl, hw1⟩
  go_wp2
  go_ret2
  exact ⟨rfl, by repeat (first | (with_reducible exact Below.refl _ _) | (with_reducible refine Below.setCell ?_ ?_ _) | (with_reducible refine Below.drew ?_) | (with_reducible refine Below.alloc ?_ ?_ _) | (with_reducible refine Below.trans ?_ (Below.mono hw1 ?_)) | (with_reducible exact hw1.size) | omega | (simp <;> omega) | (simp <;> (have s := hw1.size; omega)) | (have s0 := hw1.size; (try simp at s0); (try simp); omega))⟩

end Go.Proofs.YtjidbajcnomceaaGreat
