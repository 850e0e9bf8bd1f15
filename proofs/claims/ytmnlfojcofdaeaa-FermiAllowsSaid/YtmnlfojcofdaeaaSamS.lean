/- How two vectors are compared, as the document's answers do it.
Conditions: those written at each theorem. -/
import Derived.Test.YtmnlfojcofdaeaaVecC
import Derived.ChangeKeysEq
namespace Go.Proofs.Ytmnlfojcofdaeaa
set_option linter.unusedVariables false
set_option linter.unusedSimpArgs false
set_option maxRecDepth 1000000
open Go.RowKit
open Um Tm Fm

theorem infoI4 : ∃ i, Try.prog.info? 3 = some i := Option.isSome_iff_exists.1 (by kernel_rfl)
theorem cellsS1 : Try.prog.cellsOf 3 = 1 := by kernel_rfl
theorem eqS (x y : Sp) (W : World) : Sem.run Try.prog (Op.equalIn 10000 64 (.agg #[.int .i64 x.a, .int .i64 x.b, .int .i64 x.c, .int .i64 x.d]) (.agg #[.int .i64 y.a, .int .i64 y.b, .int .i64 y.c, .int .i64 y.d])) W = .ok (decide (x = y)) W := by
  obtain ⟨i, hi⟩ := infoI4
  have h := run_equalIn_array W 9999 #[.int .i64 x.a, .int .i64 x.b, .int .i64 x.c, .int .i64 x.d] #[.int .i64 y.a, .int .i64 y.b, .int .i64 y.c, .int .i64 y.d] Try.underlying64 hi
  rw [show (10000 : Nat) = 9999 + 1 from rfl, h, cellsS1, show List.range 4 = [0, 1, 2, 3] from rfl]
  have key : (x = y) = (x.a = y.a ∧ x.b = y.b ∧ x.c = y.c ∧ x.d = y.d) := propext ⟨fun h => by subst h; exact ⟨rfl, rfl, rfl, rfl⟩, fun ⟨a, b, c, d⟩ => ext_S a b c d⟩
  simp only [key]
  by_cases h1 : x.a = y.a
  · by_cases h2 : x.b = y.b
    · by_cases h3 : x.c = y.c
      · by_cases h4 : x.d = y.d
        · simp [Op.eqItems, go_sem, h1, h2, h3, h4]
        · simp [Op.eqItems, go_sem, h1, h2, h3, h4]
      · simp [Op.eqItems, go_sem, h1, h2, h3]
    · simp [Op.eqItems, go_sem, h1, h2]
  · simp [Op.eqItems, go_sem, h1]
theorem take_snocS {M : List Sp} {k : Nat} (h : k < M.length) : M.take (k + 1) = M.take k ++ [M[k]] := by
  rw [List.take_succ_eq_append_getElem h]
set_option maxHeartbeats 3200000 in
theorem sameS_some (b1 o1 c1 b2 o2 c2 n : Nat) (A B : List Sp) (w : World) (r : Bool) (h1 : LiesI w b1 o1 (fl A)) (h2 : LiesI w b2 o2 (fl B)) (hn1 : A.length = n) (hn2 : B.length = n) (hlen : n ≤ 1000000) (hr : r = decide (A = B)) :
    Calls Try.prog 23 #[.slice (some ⟨b1, o1, none⟩) n c1, .slice (some ⟨b2, o2, none⟩) n c2] w fun e w' => e = .returned (.bool r) ∧ Below w.heap.size w w' := by
  have H1 := Lib.hid h1
  have H2 := Lib.hid h2
  have HR := Lib.hid hr
  have N1 := Lib.hid hn1
  have N2 := Lib.hid hn2
  have qe := eqS
  clear h1 h2 hr hn1 hn2
  have kc := @Tail.cell_re
  have kc1 : ∀ (W : World) (o : Obj) (d : Nat) (os : Array Obj) (a : Addr), a.block ≤ W.heap.size → (Sort.grow (redrawn (W.alloc o) d) os).cell? a = (W.alloc o).cell? a := fun W o d os a h => Tail.cell_re (W.alloc o) d os a (Nat.lt_of_le_of_lt h (by simp))
  go_enter Try.func23, Try.ntmps23
  go_wp2
  go_loopw [5] (fun q wr => ∃ k : Nat, k ≤ n ∧ q = .int .i64 k ∧ Hid (A.take k = B.take k) ∧ Below w.heap.size w wr) (fun q _ => n - (intOf q).toNat)
  case atStart => exact ⟨0, by omega, rfl, Lib.hid rfl, Below.refl _ _⟩
  case round =>
    obtain ⟨k, hk, rfl, heq, hb⟩ := hrel
    by_cases hlt : k < n
    · have i1 : k < A.length := by have := N1.out; omega
      have i2 : k < B.length := by have := N2.out; omega
      have t1 := take_snocS i1
      have t2 := take_snocS i2
      obtain ⟨x0, x1, x2, x3⟩ := four_at (H1.out.later hb) (List.getElem?_eq_getElem i1)
      obtain ⟨y0, y1, y2, y3⟩ := four_at (H2.out.later hb) (List.getElem?_eq_getElem i2)
      have lb1 : b1 < wr.heap.size := World.block_lt_of_cell? wr _ x0
      have lb2 : b2 < wr.heap.size := World.block_lt_of_cell? wr _ y0
      generalize A[k] = x at *
      generalize B[k] = y at *
      have T1 := Lib.hid t1
      have T2 := Lib.hid t2
      clear t1 t2 i1 i2
      by_cases he : x = y
      · have hd : decide (x = y) = true := decide_eq_true he
        have HE := Lib.hid he
        clear he
        go_wp2
        refine Tail.region_below (by kernel_rfl) (by kernel_rfl) ?_
        repeat (go_big_quiet_step (fail))
        refine wpQuiet_nil ?_
        intro w1 hw1
        go_wp2
        exact ⟨⟨k + 1, by omega, by go_num, Lib.hid (by rw [T1.out, T2.out, heq.out, HE.out]), by repeat (first | (with_reducible exact Below.refl _ _) | (with_reducible refine Below.setCell ?_ ?_ _) | (with_reducible refine Below.drew ?_) | (with_reducible refine Below.alloc ?_ ?_ _) | (with_reducible refine Below.trans ?_ (Below.mono hw1 ?_)) | (with_reducible refine Below.trans ?_ (Below.mono hb ?_)) | (with_reducible exact hw1.size) | (with_reducible exact hb.size) | omega | (simp <;> omega) | (simp <;> (have s := hw1.size; omega)) | (simp <;> (have s := hb.size; omega)) | (have s0 := hw1.size; (try simp at s0); have s1 := hb.size; (try simp at s1); (try simp); omega))⟩, by simp [intOf]; omega⟩
      · have hd : decide (x = y) = false := decide_eq_false he
        have hf : r = false := by
          rw [HR.out]
          refine decide_eq_false fun h => he ?_
          have h1 := T1.out
          rw [h, T2.out] at h1
          have := List.append_cancel_left h1
          simp at this
          exact this.symm
        subst hf
        clear he
        go_wp2
        refine Tail.region_below (by kernel_rfl) (by kernel_rfl) ?_
        repeat (go_big_quiet_step (fail))
        refine wpQuiet_nil ?_
        intro w1 hw1
        go_wp2
        go_ret
        exact ⟨rfl, by repeat (first | (with_reducible exact Below.refl _ _) | (with_reducible refine Below.setCell ?_ ?_ _) | (with_reducible refine Below.drew ?_) | (with_reducible refine Below.alloc ?_ ?_ _) | (with_reducible refine Below.trans ?_ (Below.mono hw1 ?_)) | (with_reducible refine Below.trans ?_ (Below.mono hb ?_)) | (with_reducible exact hw1.size) | (with_reducible exact hb.size) | omega | (simp <;> omega) | (simp <;> (have s := hw1.size; omega)) | (simp <;> (have s := hb.size; omega)) | (have s0 := hw1.size; (try simp at s0); have s1 := hb.size; (try simp at s1); (try simp); omega))⟩
    · have hf : r = true := by
        rw [HR.out]
        refine decide_eq_true ?_
        have := heq.out
        rwa [List.take_of_length_le (by have := N1.out; omega), List.take_of_length_le (by have := N2.out; omega)] at this
      subst hf
      obtain rfl : k = n := by omega
      go_wp2
      go_ret
      exact ⟨rfl, hb⟩
set_option maxHeartbeats 800000 in
theorem sameS_len (a1 a2 : Option Addr) (c1 c2 n1 n2 : Nat) (w : World) (hn : n1 ≠ n2) :
    Calls Try.prog 23 #[.slice a1 n1 c1, .slice a2 n2 c2] w fun e w' => e = .returned (.bool false) ∧ Below w.heap.size w w' := by
  have hn' : ((n1 : Int) != (n2 : Int)) = true := by simp; omega
  clear hn
  go_enter Try.func23, Try.ntmps23
  go_wp2
  go_ret
  exact ⟨rfl, Below.refl _ _⟩
set_option maxHeartbeats 800000 in
theorem sameS_nil (a1 a2 : Option Addr) (c1 c2 : Nat) (w : World) :
    Calls Try.prog 23 #[.slice a1 0 c1, .slice a2 0 c2] w fun e w' => e = .returned (.bool true) ∧ Below w.heap.size w w' := by
  go_enter Try.func23, Try.ntmps23
  go_wp2
  refine wp_loop_rounds 1 ?_
  rw [rounds_succ]
  go_wp2
  go_ret
  exact ⟨rfl, Below.refl _ _⟩
end Go.Proofs.Ytmnlfojcofdaeaa
