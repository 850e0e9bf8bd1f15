/- The field that a call makes itself, and the cold one, as the program and the document's answers make it.
Conditions: those written at each theorem. -/
import Derived.Test.YtilbhcjnkmeecaaGreatPkLBox
import Derived.Test.YtilbhcjnkmeecaaGreatPkRegB
import Derived.Test.YtilbhcjnkmeecaaGreatPkInts
import Derived.Test.YtilbhcjnkmeecaaGreatPkPathA
namespace Go.Proofs.YtilbhcjnkmeecaaGreat
set_option linter.unusedVariables false
set_option linter.unusedSimpArgs false
set_option maxRecDepth 1000000
open Go.RowKit
open Um Tm

/-- a field in a box, to be read and written -/
structure FW (w : World) (b : Nat) (x y z : Int) (v : Value) : Prop where
  c0 : w.cell? ⟨b, 0, none⟩ = some (.int .i64 x)
  c1 : w.cell? ⟨b, 1, none⟩ = some (.int .i64 y)
  c2 : w.cell? ⟨b, 2, none⟩ = some (.int .i64 z)
  c3 : w.cell? ⟨b, 3, none⟩ = some v
  free : ∀ j, w.frozen? ⟨b, j, none⟩ = false
  lt : b < w.heap.size
theorem FW.later {w w1 : World} {b : Nat} {x y z : Int} {v : Value} (h : FW w b x y z v) (hb : Below w.heap.size w w1) : FW w1 b x y z v :=
  ⟨(hb.cell h.lt).trans h.c0, (hb.cell h.lt).trans h.c1, (hb.cell h.lt).trans h.c2, (hb.cell h.lt).trans h.c3, fun j => (hb.frozen (p := ⟨b, j, none⟩) h.lt).trans (h.free j), Nat.lt_of_lt_of_le h.lt hb.size⟩
theorem FW.grown {w w1 : World} {b : Nat} {x y z : Int} {v : Value} {row : Option Nat} (h : FW w b x y z v) (hg : w.grownBy w1 row) (hne : some b ≠ row) : FW w1 b x y z v :=
  ⟨hg.cell h.c0 hne, hg.cell h.c1 hne, hg.cell h.c2 hne, hg.cell h.c3 hne, fun j => (World.frozen?_of_block (a := ⟨b, j, none⟩) (hg.block b h.lt hne)).trans (h.free j), Nat.lt_of_lt_of_le h.lt hg.size⟩
theorem LBox.at {w : World} {g : Nat} {M : List Q} (k : LBox w g M) {i : Nat} {x : Q} (hx : M[i]? = some x) : w.cell? ⟨g, i * 5, none⟩ = some (.int .i64 x.a) ∧ w.cell? ⟨g, i * 5 + 1, none⟩ = some (.int .i64 x.b) ∧ w.cell? ⟨g, i * 5 + 2, none⟩ = some (.int .i64 x.c) ∧ w.cell? ⟨g, i * 5 + 3, none⟩ = some (.int .i64 x.d) ∧ w.cell? ⟨g, i * 5 + 4, none⟩ = some (.int .i64 x.n) := by
  have := k.h i x hx
  simpa only [Nat.zero_add] using this
theorem size_ex {a b c : Int} (h : Sz a b c) : ∃ n : Nat, (n : Int) = 3 * (a * b * c) ∧ 0 < n ∧ n ≤ 48 := by
  obtain ⟨-, -, p3, -⟩ := mul_rng h.a1 h.a4 h.b1 h.b4 h.c1 h.c4
  have := h.p
  exact ⟨(3 * (a * b * c)).toNat, by omega, by omega, by omega⟩

set_option maxHeartbeats 1600000 in
theorem blank_any (a b c : Int) (n : Nat) (w : World) (h : Sz a b c) (hn : (n : Int) = 3 * (a * b * c)) : Calls Tryz.prog 87 #[.agg #[.int .i64 a, .int .i64 b, .int .i64 c]] w fun e w' => ∃ g : Nat, e = .returned (.agg #[.int .i64 a, .int .i64 b, .int .i64 c, .slice (some ⟨g, 0, none⟩) n n]) ∧ LBox w' g (List.replicate n zero) ∧ w.heap.size ≤ g ∧ Below w.heap.size w w' := by
  have c1 := fun W : World => count_any a b c W h.a1 h.a4 h.b1 h.b4 h.c1 h.c4
  obtain ⟨-, -, p3, p4⟩ := mul_rng h.a1 h.a4 h.b1 h.b4 h.c1 h.c4
  obtain ⟨i0, hi, hz0, hz1, hz2⟩ := info_parts infoU
  clear h
  generalize a * b * c = m at *
  have HN := Lib.hid hn
  have n1 : n ≤ 192 := by omega
  clear hn
  have e1 : IntKind.i64.wrap (3 * m) = 3 * m := IntWalk.i64_in _ (by omega)
  have mk : ∀ W : World, (Instr.makeSlice 23 (.int .i64 (3 * m)) (.int .i64 (3 * m))).run Tryz.prog W = .ok (.slice (some ⟨W.heap.size, 0, none⟩) n n) (W.alloc (.cells (madeCells (uc zero).toArray (n * 5)) 40)) := fun W => by
    have := run_make (P := Tryz.prog) W 23 40 i0 _ Tryz.underlying23 hi hz0 .i64 .i64 (3 * m) (3 * m) (by omega) (Int.le_refl _) (by rw [hz2]; omega) (by omega)
    rw [this, ← HN.out, Int.toNat_natCast, hz1]
    rfl
  clear p3 p4
  go_enter Tryz.func87, Tryz.ntmps87
  go_wp2
  apply Made.region_one 4 (.cells (madeCells (uc zero).toArray (n * 5)) 40) (fun g => .slice (some ⟨g, 0, none⟩) n n) (some 7) (by kernel_rfl) (by kernel_rfl) (by kernel_rfl)
  · intro B hB
    have kc := @Tail.cell_re
    have hcB := Tail.cells hB
    have zB0 := Nat.lt_of_lt_of_le (n := w.heap.size) (by simp <;> omega) hB.size
    have zB1 := Nat.lt_of_lt_of_le (n := w.heap.size + 1) (by simp <;> omega) hB.size
    simp only [List.take_succ_cons, List.take_zero]
    repeat (go_big_quiet_step (first | (with_reducible exact Calls.regrown_of (c1 _))))
    exact wpQuiet_nil rfl
  · refine ⟨_, rfl, rfl, fun W => ⟨rfl, ?_⟩⟩
    simp [execOp, go_sem, mk]
  · intro g W hg hW hx
    show wpList _ _ _ (List.drop 5 _) _ _
    simp only [List.drop_succ_cons, List.drop_zero]
    have hgl : g < W.heap.size := (Array.getElem?_eq_some_iff.1 hx).1
    have hL := LBox.made hx hgl
    have HL := Lib.hid hL
    have r0 : FW W (w.heap.size + 1) 0 0 0 (.slice none 0 0) := (⟨by simp [go_sem], by simp [go_sem], by simp [go_sem], by simp [go_sem], fun j => by simp [go_sem], by simp⟩ : FW ((w.alloc (.cells #[.int .i64 a, .int .i64 b, .int .i64 c] 22)).alloc (.cells #[.int .i64 0, .int .i64 0, .int .i64 0, .slice none 0 0] 25)) (w.heap.size + 1) 0 0 0 (.slice none 0 0)).later hW
    obtain ⟨d0, d1, d2, d3, df, dl⟩ := r0
    have hg2 : w.heap.size + 2 ≤ g := by simpa using hg
    have hB : Below w.heap.size w W := by repeat (first | (with_reducible exact Below.refl _ _) | (with_reducible refine Below.setCell ?_ ?_ _) | (with_reducible refine Below.drew ?_) | (with_reducible refine Below.alloc ?_ ?_ _) | (with_reducible refine Below.trans ?_ (Below.mono hW ?_)) | (with_reducible exact hW.size) | omega | (simp <;> omega) | (simp <;> (have s := hW.size; omega)) | (have s0 := hW.size; (try simp at s0); (try simp); omega))
    clear hL hx hW
    go_wp2
    refine bodyPost_ret (v := .agg #[.int .i64 a, .int .i64 b, .int .i64 c, .slice (some ⟨g, 0, none⟩) n n]) ?_ rfl ⟨g, rfl, ?_, by omega, ?_⟩
    · simp [results, Tryz.results87, go_sem, d0, d1, d2, d3]
    · have k := grown_setCells (w.heap.size + 1) [.int .i64 a, .int .i64 b, .int .i64 c, .slice (some ⟨g, 0, none⟩) n n] 0 W
      exact HL.out.grown k (by simp; omega)
    · repeat (first | (with_reducible exact Below.refl _ _) | (with_reducible refine Below.setCell ?_ ?_ _) | (with_reducible refine Below.drew ?_) | (with_reducible refine Below.alloc ?_ ?_ _) | (with_reducible refine Below.trans ?_ (Below.mono hB ?_)) | (with_reducible exact hB.size) | omega | (simp <;> omega) | (simp <;> (have s := hB.size; omega)) | (have s0 := hB.size; (try simp at s0); (try simp); omega))
theorem owned5_some {w : World} {base : Nat} {T : TypeId} {v : Value} {n : Nat} {xs : List Value} (h : w.ownsRow base T 5 v n xs) (hn : 0 < n) : ∃ g cap, v = .slice (some ⟨g, 0, none⟩) n cap ∧ base ≤ g := by
  rcases h.2 with ⟨rfl, h0⟩ | ⟨g, cap, cur, rfl, hg, _⟩
  · omega
  · exact ⟨g, cap, rfl, hg⟩
/-- a list that is being filled -/
def fillTo (T : List Q) (k : Nat) : List Q := T.take k ++ List.replicate (T.length - k) zero
theorem fillTo_zero (T : List Q) : fillTo T 0 = List.replicate T.length zero := by simp [fillTo]
theorem fillTo_end (T : List Q) : fillTo T T.length = T := by simp [fillTo]
theorem fillTo_len (T : List Q) (k : Nat) (h : k ≤ T.length) : (fillTo T k).length = T.length := by simp [fillTo]; omega
theorem fillTo_at (T : List Q) (k : Nat) (h : k < T.length) : (fillTo T k)[k]? = some zero := by
  unfold fillTo
  have hl : (T.take k).length = k := by rw [List.length_take]; omega
  rw [List.getElem?_append_right (by omega), hl, Nat.sub_self, List.getElem?_replicate, if_pos (by omega)]
theorem fillTo_step (T : List Q) (k : Nat) (h : k < T.length) : (fillTo T k).set k T[k] = fillTo T (k + 1) := by
  unfold fillTo
  have hl : (T.take k).length = k := by rw [List.length_take]; omega
  rw [List.set_append_right _ _ (by omega), hl, Nat.sub_self, List.take_succ_eq_append_getElem h, List.append_assoc]
  congr 1
  rw [show T.length - k = (T.length - (k + 1)) + 1 by omega, List.replicate_succ]
  rfl
/-- What a call returns that makes a field of these links. -/
def RetF (a b c : Int) (M : List Q) (e : Ending) (w' : World) : Prop := ∃ g k : Nat, e = .returned (.tuple #[.agg #[.int .i64 a, .int .i64 b, .int .i64 c, .slice (some ⟨g, 0, none⟩) M.length k], .int .i64 0]) ∧ Lies w' g 0 M

end Go.Proofs.YtilbhcjnkmeecaaGreat
