/- Whether two fields of the same sizes are the same, as the document's answers decide it.
Conditions: the links lie in memory, as many of both. -/
import Derived.Test.YtilbhcjnkmeecaaGreatPkFieldM
namespace Go.Proofs.YtilbhcjnkmeecaaGreat
set_option linter.unusedVariables false
set_option linter.unusedSimpArgs false
set_option maxRecDepth 1000000
open Go.RowKit
open Um Tm

theorem take_oneQ {l : List Q} {k : Nat} (h : k < l.length) : l.take (k + 1) = l.take k ++ [l[k]] := List.take_succ_eq_append_getElem h
set_option maxHeartbeats 3200000 in
theorem sameF_dec (a b c : Int) (b1 o1 c1 b2 o2 c2 n : Nat) (L M : List Q) (w : World) (r : Bool) (h1 : Lies w b1 o1 L) (h2 : Lies w b2 o2 M) (n1 : L.length = n) (n2 : M.length = n) (hlen : n ≤ 1000000) (hr : r = decide (L = M)) :
    Calls Tryz.prog 17 #[.agg #[.int .i64 a, .int .i64 b, .int .i64 c, .slice (some ⟨b1, o1, none⟩) n c1], .agg #[.int .i64 a, .int .i64 b, .int .i64 c, .slice (some ⟨b2, o2, none⟩) n c2]] w fun e w' => e = .returned (.bool r) ∧ Below w.heap.size w w' := by
  have H1 := Lib.hid h1
  have H2 := Lib.hid h2
  have N1 := Lib.hid n1
  have N2 := Lib.hid n2
  have HR := Lib.hid hr
  have qa := eqA3 a b c
  have kc := @Tail.cell_re
  have kc1 : ∀ (W : World) (o : Obj) (d : Nat) (os : Array Obj) (a : Addr), a.block ≤ W.heap.size → (Sort.grow (redrawn (W.alloc o) d) os).cell? a = (W.alloc o).cell? a := fun W o d os a h => Tail.cell_re (W.alloc o) d os a (Nat.lt_of_le_of_lt h (by simp))
  clear h1 h2 n1 n2 hr
  go_enter Tryz.func17, Tryz.ntmps17
  go_wp2
  go_loopw [5] (fun q wr => ∃ k : Nat, k ≤ n ∧ q = .int .i64 k ∧ Hid (L.take k = M.take k) ∧ FBox wr w.heap.size a b c (.slice (some ⟨b1, o1, none⟩) n c1) ∧ FBox wr (w.heap.size + 1) a b c (.slice (some ⟨b2, o2, none⟩) n c2) ∧ Below w.heap.size w wr) (fun q _ => n - (intOf q).toNat)
  case atStart => exact ⟨0, by omega, rfl, Lib.hid rfl, ⟨by simp [go_sem], by simp [go_sem], by simp [go_sem], by simp [go_sem], by simp; omega⟩, ⟨by simp [go_sem], by simp [go_sem], by simp [go_sem], by simp [go_sem], by simp⟩, by repeat (first | (with_reducible exact Below.refl _ _) | (with_reducible refine Below.setCell ?_ ?_ _) | (with_reducible refine Below.drew ?_) | (with_reducible refine Below.alloc ?_ ?_ _) | omega | (simp <;> omega))⟩
  case round =>
    obtain ⟨k, hk, rfl, heq, fb1, fb2, hb⟩ := hrel
    have F1 := Lib.hid fb1
    have F2 := Lib.hid fb2
    obtain ⟨f0, f1, f2, f3, fl⟩ := fb1
    obtain ⟨g0, g1, g2, g3, gl⟩ := fb2
    by_cases hlt : k < n
    · have i1 : (k : Int) < (n : Int) := by omega
      have j1 : k < L.length := by have := N1.out; omega
      have j2 : k < M.length := by have := N2.out; omega
      have T1 := Lib.hid (take_oneQ j1)
      have T2 := Lib.hid (take_oneQ j2)
      obtain ⟨l0, l1, l2, l3, l4⟩ := H1.out.later hb k _ (List.getElem?_eq_getElem j1)
      obtain ⟨m0, m1, m2, m3, m4⟩ := H2.out.later hb k _ (List.getElem?_eq_getElem j2)
      have lb1 : b1 < wr.heap.size := World.block_lt_of_cell? wr _ l0
      have lb2 : b2 < wr.heap.size := World.block_lt_of_cell? wr _ m0
      generalize L[k] = x at *
      generalize M[k] = y at *
      clear j1 j2
      have hbs := hb.size
      by_cases he : x = y
      · have qx : ∀ W, Sem.run Tryz.prog (Op.equalIn 10000 40 (.agg #[.int .i64 x.a, .int .i64 x.b, .int .i64 x.c, .int .i64 x.d, .int .i64 x.n]) (.agg #[.int .i64 y.a, .int .i64 y.b, .int .i64 y.c, .int .i64 y.d, .int .i64 y.n])) W = .ok true W := fun W => by rw [he]; simpa using eqU y y W
        have HE := Lib.hid (show L.take (k + 1) = M.take (k + 1) by rw [T1.out, T2.out, heq.out, he])
        clear he heq T1 T2
        go_wp2
        refine Tail.region_below (by kernel_rfl) (by kernel_rfl) ?_
        repeat (go_big_quiet_step (fail))
        refine wpQuiet_nil ?_
        intro w1 hw1
        have F1' := F1.out.later hw1
        have F2' := F2.out.later hw1
        clear f0 f1 f2 f3 fl g0 g1 g2 g3 gl l0 l1 l2 l3 l4 m0 m1 m2 m3 m4
        go_wp2
        exact ⟨⟨k + 1, by omega, by go_num, HE, F1', F2', by repeat (first | (with_reducible exact Below.refl _ _) | (with_reducible refine Below.setCell ?_ ?_ _) | (with_reducible refine Below.drew ?_) | (with_reducible refine Below.alloc ?_ ?_ _) | (with_reducible refine Below.trans ?_ (Below.mono hw1 ?_)) | (with_reducible refine Below.trans ?_ (Below.mono hb ?_)) | (with_reducible exact hw1.size) | (with_reducible exact hb.size) | omega | (simp <;> omega) | (simp <;> (have s := hw1.size; omega)) | (simp <;> (have s := hb.size; omega)) | (have s0 := hw1.size; (try simp at s0); have s1 := hb.size; (try simp at s1); (try simp); omega))⟩, by simp [intOf]; omega⟩
      · have qx : ∀ W, Sem.run Tryz.prog (Op.equalIn 10000 40 (.agg #[.int .i64 x.a, .int .i64 x.b, .int .i64 x.c, .int .i64 x.d, .int .i64 x.n]) (.agg #[.int .i64 y.a, .int .i64 y.b, .int .i64 y.c, .int .i64 y.d, .int .i64 y.n])) W = .ok false W := fun W => by have := eqU x y W; rwa [decide_eq_false he] at this
        have hf : r = false := by
          rw [HR.out]
          refine decide_eq_false fun h => he ?_
          have h1 := T1.out
          rw [h, T2.out] at h1
          have := List.append_cancel_left h1
          simpa using this.symm
        subst hf
        clear he heq T1 T2
        go_wp2
        refine Tail.region_below (by kernel_rfl) (by kernel_rfl) ?_
        repeat (go_big_quiet_step (fail))
        refine wpQuiet_nil ?_
        intro w1 hw1
        clear f0 f1 f2 f3 fl g0 g1 g2 g3 gl l0 l1 l2 l3 l4 m0 m1 m2 m3 m4
        go_wp2
        go_ret
        exact ⟨rfl, by repeat (first | (with_reducible exact Below.refl _ _) | (with_reducible refine Below.setCell ?_ ?_ _) | (with_reducible refine Below.drew ?_) | (with_reducible refine Below.alloc ?_ ?_ _) | (with_reducible refine Below.trans ?_ (Below.mono hw1 ?_)) | (with_reducible refine Below.trans ?_ (Below.mono hb ?_)) | (with_reducible exact hw1.size) | (with_reducible exact hb.size) | omega | (simp <;> omega) | (simp <;> (have s := hw1.size; omega)) | (simp <;> (have s := hb.size; omega)) | (have s0 := hw1.size; (try simp at s0); have s1 := hb.size; (try simp at s1); (try simp); omega))⟩
    · obtain rfl : k = n := by omega
      have hf : r = true := by
        rw [HR.out]
        refine decide_eq_true ?_
        have := heq.out
        rwa [List.take_of_length_le (by have := N1.out; omega), List.take_of_length_le (by have := N2.out; omega)] at this
      subst hf
      go_wp2
      go_ret
      exact ⟨rfl, hb⟩
end Go.Proofs.YtilbhcjnkmeecaaGreat
