/- The field that a call makes itself, and the cold one, as the program and the document's answers make it.
Conditions: those written at each theorem. -/
import Derived.Test.YtoafojojhdcmfaaLBox
import Derived.Test.YtoafojojhdcmfaaMade
import Derived.Test.YtoafojojhdcmfaaInts
import Derived.Test.YtoafojojhdcmfaaWalkC
namespace Go.Proofs.Ytoafojojhdcmfaa
set_option linter.unusedVariables false
set_option linter.unusedSimpArgs false
set_option maxRecDepth 1000000
open Go.RowKit
open Um Tm

/-- a field in a box, to be read and written -/
structure FW (w : World) (b : Nat) (x y z : Int) (v : Value) : Prop where
  c0 : w.cell? ⟨b, 0, none⟩ = some (.int .i64 x)
  c1 : w.cell? ⟨b, 1, none⟩ = some (.int .i64 y)
  c2 : w.cell? ⟨b, 2, none⟩ = some (.int .i64 z)
  c3 : w.cell? ⟨b, 3, none⟩ = some v
  free : ∀ j, w.frozen? ⟨b, j, none⟩ = false
  lt : b < w.heap.size
theorem FW.later {w w1 : World} {b : Nat} {x y z : Int} {v : Value} (h : FW w b x y z v) (hb : Below w.heap.size w w1) : FW w1 b x y z v :=
  ⟨(hb.cell h.lt).trans h.c0, (hb.cell h.lt).trans h.c1, (hb.cell h.lt).trans h.c2, (hb.cell h.lt).trans h.c3, fun j => (hb.frozen (p := ⟨b, j, none⟩) h.lt).trans (h.free j), Nat.lt_of_lt_of_le h.lt hb.size⟩
theorem FW.grown {w w1 : World} {b : Nat} {x y z : Int} {v : Value} {row : Option Nat} (h : FW w b x y z v) (hg : w.grownBy w1 row) (hne : some b ≠ row) : FW w1 b x y z v :=
  ⟨hg.cell h.c0 hne, hg.cell h.c1 hne, hg.cell h.c2 hne, hg.cell h.c3 hne, fun j => (World.frozen?_of_block (a := ⟨b, j, none⟩) (hg.block b h.lt hne)).trans (h.free j), Nat.lt_of_lt_of_le h.lt hg.size⟩
theorem LBox.at {w : World} {g : Nat} {M : List Q} (k : LBox w g M) {i : Nat} {x : Q} (hx : M[i]? = some x) : w.cell? ⟨g, i * 5, none⟩ = some (.int .i64 x.a) ∧ w.cell? ⟨g, i * 5 + 1, none⟩ = some (.int .i64 x.b) ∧ w.cell? ⟨g, i * 5 + 2, none⟩ = some (.int .i64 x.c) ∧ w.cell? ⟨g, i * 5 + 3, none⟩ = some (.int .i64 x.d) ∧ w.cell? ⟨g, i * 5 + 4, none⟩ = some (.int .i64 x.n) := by
  have := k.h i x hx
  simpa only [Nat.zero_add] using this
theorem size_ex {a b c : Int} (h : Sz a b c) : ∃ n : Nat, (n : Int) = 3 * (a * b * c) ∧ 0 < n ∧ n ≤ 48 := by
  obtain ⟨-, -, p3, -⟩ := mul_rng h.a1 h.a4 h.b1 h.b4 h.c1 h.c4
  have := h.p
  exact ⟨(3 * (a * b * c)).toNat, by omega, by omega, by omega⟩

set_option maxHeartbeats 1600000 in
theorem blank_any (a b c : Int) (n : Nat) (w : World) (h : Sz a b c) (hn : (n : Int) = 3 * (a * b * c)) : Calls Try.prog 101 #[.agg #[.int .i64 a, .int .i64 b, .int .i64 c]] w fun e w' => ∃ g : Nat, e = .returned (.agg #[.int .i64 a, .int .i64 b, .int .i64 c, .slice (some ⟨g, 0, none⟩) n n]) ∧ LBox w' g (List.replicate n zero) ∧ w.heap.size ≤ g ∧ Below w.heap.size w w' := by
  have c1 := fun W : World => count_any a b c W h.a1 h.a4 h.b1 h.b4 h.c1 h.c4
  obtain ⟨-, -, p3, p4⟩ := mul_rng h.a1 h.a4 h.b1 h.b4 h.c1 h.c4
  obtain ⟨i0, hi, hz0, hz1, hz2⟩ := info_parts infoU
  clear h
  generalize a * b * c = m at *
  have HN := Lib.hid hn
  have n1 : n ≤ 192 := by omega
  clear hn
  have e1 : IntKind.i64.wrap (3 * m) = 3 * m := IntWalk.i64_in _ (by omega)
  have mk : ∀ W : World, (Instr.makeSlice 23 (.int .i64 (3 * m)) (.int .i64 (3 * m))).run Try.prog W = .ok (.slice (some ⟨W.heap.size, 0, none⟩) n n) (W.alloc (.cells (madeCells (uc zero).toArray (n * 5)) 29)) := fun W => by
    have := run_make (P := Try.prog) W 23 29 i0 _ Try.underlying23 hi hz0 .i64 .i64 (3 * m) (3 * m) (by omega) (Int.le_refl _) (by rw [hz2]; omega) (by omega)
    rw [this, ← HN.out, Int.toNat_natCast, hz1]
    rfl
  clear p3 p4
  go_enter Try.func101, Try.ntmps101
  go_wp2
  apply Made.region_one 4 (.cells (madeCells (uc zero).toArray (n * 5)) 29) (fun g => .slice (some ⟨g, 0, none⟩) n n) (some 7) (by kernel_rfl) (by kernel_rfl) (by kernel_rfl)
  · intro B hB
    have kc := @Tail.cell_re
    have hcB := Tail.cells hB
    have zB0 := Nat.lt_of_lt_of_le (n := w.heap.size) (by simp <;> omega) hB.size
    have zB1 := Nat.lt_of_lt_of_le (n := w.heap.size + 1) (by simp <;> omega) hB.size
    simp only [List.take_succ_cons, List.take_zero]
    repeat (go_big_quiet_step (first | (with_reducible exact Calls.regrown_of (c1 _))))
    exact wpQuiet_nil rfl
  · refine ⟨_, rfl, rfl, fun W => ⟨rfl, ?_⟩⟩
    simp [execOp, go_sem, mk]
  · intro g W hg hW hx
    show wpList _ _ _ (List.drop 5 _) _ _
    simp only [List.drop_succ_cons, List.drop_zero]
    have hgl : g < W.heap.size := (Array.getElem?_eq_some_iff.1 hx).1
    have hL := LBox.made hx hgl
    have HL := Lib.hid hL
    have r0 : FW W (w.heap.size + 1) 0 0 0 (.slice none 0 0) := (⟨by simp [go_sem], by simp [go_sem], by simp [go_sem], by simp [go_sem], fun j => by simp [go_sem], by simp⟩ : FW ((w.alloc (.cells #[.int .i64 a, .int .i64 b, .int .i64 c] 22)).alloc (.cells #[.int .i64 0, .int .i64 0, .int .i64 0, .slice none 0 0] 25)) (w.heap.size + 1) 0 0 0 (.slice none 0 0)).later hW
    obtain ⟨d0, d1, d2, d3, df, dl⟩ := r0
    have hg2 : w.heap.size + 2 ≤ g := by simpa using hg
    have hB : Below w.heap.size w W := by repeat (first | (with_reducible exact Below.refl _ _) | (with_reducible refine Below.setCell ?_ ?_ _) | (with_reducible refine Below.drew ?_) | (with_reducible refine Below.alloc ?_ ?_ _) | (with_reducible refine Below.trans ?_ (Below.mono hW ?_)) | (with_reducible exact hW.size) | omega | (simp <;> omega) | (simp <;> (have s := hW.size; omega)) | (have s0 := hW.size; (try simp at s0); (try simp); omega))
    clear hL hx hW
    go_wp2
    refine bodyPost_ret (v := .agg #[.int .i64 a, .int .i64 b, .int .i64 c, .slice (some ⟨g, 0, none⟩) n n]) ?_ rfl ⟨g, rfl, ?_, by omega, ?_⟩
    · simp [results, Try.results101, go_sem, d0, d1, d2, d3]
    · have k := grown_setCells (w.heap.size + 1) [.int .i64 a, .int .i64 b, .int .i64 c, .slice (some ⟨g, 0, none⟩) n n] 0 W
      exact HL.out.grown k (by simp; omega)
    · repeat (first | (with_reducible exact Below.refl _ _) | (with_reducible refine Below.setCell ?_ ?_ _) | (with_reducible refine Below.drew ?_) | (with_reducible refine Below.alloc ?_ ?_ _) | (with_reducible refine Below.trans ?_ (Below.mono hB ?_)) | (with_reducible exact hB.size) | omega | (simp <;> omega) | (simp <;> (have s := hB.size; omega)) | (have s0 := hB.size; (try simp at s0); (try simp); omega))
theorem FW.set3 {w : World} {b : Nat} {x y z : Int} {v : Value} (h : FW w b x y z v) (u : Value) : FW (w.setCell ⟨b, 3, none⟩ u) b x y z u :=
  ⟨(World.cell?_setCell_other _ _ _ _ (by simp)).trans h.c0, (World.cell?_setCell_other _ _ _ _ (by simp)).trans h.c1, (World.cell?_setCell_other _ _ _ _ (by simp)).trans h.c2, World.cell?_setCell_same _ _ _ h.c3, fun j => by rw [World.frozen?_setCell]; exact h.free j, by simp [World.setCell]; exact h.lt⟩
theorem owned5_some {w : World} {base : Nat} {T : TypeId} {v : Value} {n : Nat} {xs : List Value} (h : w.ownsRow base T 5 v n xs) (hn : 0 < n) : ∃ g cap, v = .slice (some ⟨g, 0, none⟩) n cap ∧ base ≤ g := by
  rcases h.2 with ⟨rfl, h0⟩ | ⟨g, cap, cur, rfl, hg, _⟩
  · omega
  · exact ⟨g, cap, rfl, hg⟩
/-- a list that is being filled -/
def fillTo (T : List Q) (k : Nat) : List Q := T.take k ++ List.replicate (T.length - k) zero
theorem fillTo_zero (T : List Q) : fillTo T 0 = List.replicate T.length zero := by simp [fillTo]
theorem fillTo_end (T : List Q) : fillTo T T.length = T := by simp [fillTo]
theorem fillTo_len (T : List Q) (k : Nat) (h : k ≤ T.length) : (fillTo T k).length = T.length := by simp [fillTo]; omega
theorem fillTo_at (T : List Q) (k : Nat) (h : k < T.length) : (fillTo T k)[k]? = some zero := by
  unfold fillTo
  have hl : (T.take k).length = k := by rw [List.length_take]; omega
  rw [List.getElem?_append_right (by omega), hl, Nat.sub_self, List.getElem?_replicate, if_pos (by omega)]
theorem fillTo_step (T : List Q) (k : Nat) (h : k < T.length) : (fillTo T k).set k T[k] = fillTo T (k + 1) := by
  unfold fillTo
  have hl : (T.take k).length = k := by rw [List.length_take]; omega
  rw [List.set_append_right _ _ (by omega), hl, Nat.sub_self, List.take_succ_eq_append_getElem h, List.append_assoc]
  congr 1
  rw [show T.length - k = (T.length - (k + 1)) + 1 by omega, List.replicate_succ]
  rfl
/-- What a call returns that makes a field of these links. -/
def RetF (a b c : Int) (M : List Q) (e : Ending) (w' : World) : Prop := ∃ g k : Nat, e = .returned (.tuple #[.agg #[.int .i64 a, .int .i64 b, .int .i64 c, .slice (some ⟨g, 0, none⟩) M.length k], .int .i64 0]) ∧ Lies w' g 0 M

set_option maxHeartbeats 1600000 in
theorem cold_ok (a b c : Int) (n : Nat) (w : World) (hz : Sz a b c) (hn : (n : Int) = 3 * (a * b * c)) (hn48 : n ≤ 48) : Calls Try.prog 41 #[.agg #[.int .i64 a, .int .i64 b, .int .i64 c]] w fun e w' => RetF a b c (List.replicate n one) e w' ∧ Below w.heap.size w w' := by
  have c1 := fun W : World => sizes_any a b c 0 W (.inl ⟨hz, rfl⟩)
  have c2 := fun W : World => blank_any a b c n W hz hn
  have hT : (List.replicate n one).length = n := List.length_replicate
  have fz := fillTo_zero (List.replicate n one)
  have fe := fillTo_end (List.replicate n one)
  have fat := fun k h => fillTo_at (List.replicate n one) k h
  have fst : ∀ k, k < n → (fillTo (List.replicate n one) k).set k one = fillTo (List.replicate n one) (k + 1) := fun k h => by
    have := fillTo_step (List.replicate n one) k (by omega)
    rwa [List.getElem_replicate] at this
  have flen := fun k h => fillTo_len (List.replicate n one) k h
  rw [hT] at fz fe fat flen
  have FZ := Lib.hid fz
  have FE := Lib.hid fe
  have FA := Lib.hid fat
  have FS := Lib.hid fst
  have FL := Lib.hid flen
  clear hz hn fz fe fat fst flen hT
  generalize List.replicate n one = T at *
  go_enter Try.func41, Try.ntmps41
  go_wp2_with (first | ((with_reducible refine (c1 _).mono ?_); clear c1; rintro e w1 ⟨rfl, hw1⟩; have hc1 := Tail.cells hw1; have zw10 := Nat.lt_of_lt_of_le (n := w.heap.size) (by simp <;> omega) hw1.size; have zw11 := Nat.lt_of_lt_of_le (n := w.heap.size + 1) (by simp <;> omega) hw1.size) | ((with_reducible refine (c2 _).mono ?_); clear c2; rintro e w2 ⟨g, rfl, hL, hg, hw2⟩; have HL := Lib.hid hL; clear hL))
  have r0 := ((⟨by simp [go_sem], by simp [go_sem], by simp [go_sem], by simp [go_sem], fun j => by simp [go_sem], by simp⟩ : FW ((w.alloc (.cells #[.int .i64 a, .int .i64 b, .int .i64 c] 22)).alloc (.cells #[.int .i64 0, .int .i64 0, .int .i64 0, .slice none 0 0] 25)) (w.heap.size + 1) 0 0 0 (.slice none 0 0)).later hw1).later hw2
  have r1 := r0.later ((Below.refl _ _).alloc (Nat.le_refl _) (.cells #[.int .i64 a, .int .i64 b, .int .i64 c, .slice (some ⟨g, 0, none⟩) n n] 25))
  have f1 : FW (w2.alloc (.cells #[.int .i64 a, .int .i64 b, .int .i64 c, .slice (some ⟨g, 0, none⟩) n n] 25)) w2.heap.size a b c (.slice (some ⟨g, 0, none⟩) n n) := ⟨by simp [go_sem], by simp [go_sem], by simp [go_sem], by simp [go_sem], fun j => by simp [go_sem], by simp⟩
  have l1 := HL.out.later ((Below.refl _ _).alloc (Nat.le_refl _) (.cells #[.int .i64 a, .int .i64 b, .int .i64 c, .slice (some ⟨g, 0, none⟩) n n] 25))
  rw [← FZ.out] at l1
  have hB : Below w.heap.size w (w2.alloc (.cells #[.int .i64 a, .int .i64 b, .int .i64 c, .slice (some ⟨g, 0, none⟩) n n] 25)) := by repeat (first | (with_reducible exact Below.refl _ _) | (with_reducible refine Below.setCell ?_ ?_ _) | (with_reducible refine Below.drew ?_) | (with_reducible refine Below.alloc ?_ ?_ _) | (with_reducible refine Below.trans ?_ (Below.mono hw2 ?_)) | (with_reducible refine Below.trans ?_ (Below.mono hw1 ?_)) | (with_reducible exact hw2.size) | (with_reducible exact hw1.size) | omega | (simp <;> omega) | (simp <;> (have s := hw2.size; omega)) | (simp <;> (have s := hw1.size; omega)) | (have s0 := hw2.size; (try simp at s0); have s1 := hw1.size; (try simp at s1); (try simp); omega))
  have hgp : g < w2.heap.size := HL.out.lt
  have hg2 : w.heap.size + 2 ≤ g := by have := hw1.size; simp at this; omega
  clear r0 HL hw1 hw2 hc1 zw10 zw11 hg
  generalize w2.heap.size = p at *
  go_loopw [6, 18] (fun _ q wr => ∃ k : Nat, k ≤ n ∧ q = .int .i64 k ∧ FW wr p a b c (.slice (some ⟨g, 0, none⟩) n n) ∧ FW wr (w.heap.size + 1) 0 0 0 (.slice none 0 0) ∧ LBox wr g (fillTo T k) ∧ Below w.heap.size w wr) (fun _ q _ => n - (intOf q).toNat)
  case atStart => exact ⟨0, by omega, rfl, f1, r1, l1, hB⟩
  case round =>
    obtain ⟨k, hk, rfl, ff, rr, lb, hb⟩ := hrel
    clear f1 r1 l1 hB
    have FF := Lib.hid ff
    have RR := Lib.hid rr
    have LB := Lib.hid lb
    by_cases hlt : k < n
    · have i1 : (k : Int) < (n : Int) := by omega
      obtain ⟨l0, l1, l2, l3, l4⟩ := lb.at (FA.out k hlt)
      have lf := lb.free
      have lbl := lb.lt
      obtain ⟨f0, f1, f2, f3, fr, fl⟩ := ff
      clear rr lb
      go_wp2
      have G1 := grown_setCells g (uc one) (k * 5) wr
      have L1 := LB.out.put k (by rw [FL.out k hk]; exact hlt) one
      rw [FS.out k hlt] at L1
      exact ⟨⟨k + 1, by omega, by go_num, FF.out.grown G1 (by simp; omega), RR.out.grown G1 (by simp; omega), L1, hb.grown G1 hb.size (fun j hj => by simp at hj; omega)⟩, by simp [intOf]; omega⟩
    · obtain rfl : k = n := by omega
      obtain ⟨f0, f1, f2, f3, fr, fl⟩ := ff
      obtain ⟨d0, d1, d2, d3, df, dl⟩ := rr
      have hlen : T.length = k := by have := FL.out k (Nat.le_refl _); rw [FE.out] at this; exact this
      have HLN := Lib.hid hlen
      clear lb hlen
      go_wp2
      have G1 := grown_setCells (w.heap.size + 1) [.int .i64 a, .int .i64 b, .int .i64 c, .slice (some ⟨g, 0, none⟩) k k] 0 wr
      have L1 := LB.out.grown G1 (by simp; omega)
      rw [FE.out] at L1
      refine bodyPost_ret (v := .tuple #[.agg #[.int .i64 a, .int .i64 b, .int .i64 c, .slice (some ⟨g, 0, none⟩) k k], .int .i64 0]) ?_ rfl ⟨⟨g, k, by rw [HLN.out], L1.h⟩, ?_⟩
      · simp [results, Try.results41, go_sem, d0, d1, d2, d3]
      · repeat (first | (with_reducible exact Below.refl _ _) | (with_reducible refine Below.setCell ?_ ?_ _) | (with_reducible refine Below.drew ?_) | (with_reducible refine Below.alloc ?_ ?_ _) | (with_reducible refine Below.trans ?_ (Below.mono hb ?_)) | (with_reducible exact hb.size) | omega | (simp <;> omega) | (simp <;> (have s := hb.size; omega)) | (have s0 := hb.size; (try simp at s0); (try simp); omega))

set_option maxHeartbeats 3200000 in
theorem refCold_ok (a b c : Int) (n : Nat) (w : World) (hz : Sz a b c) (hn : (n : Int) = 3 * (a * b * c)) (hn48 : n ≤ 48) (hn0 : 0 < n) : Calls Try.prog 42 #[.agg #[.int .i64 a, .int .i64 b, .int .i64 c]] w fun e w' => RetF a b c (List.replicate n one) e w' ∧ Below w.heap.size w w' := by
  have c1 := fun W : World => refSizes_any a b c 0 W (.inl ⟨hz, rfl⟩)
  have c2 := fun W : World => refSize_any a b c W hz.a1 hz.a4 hz.b1 hz.b4 hz.c1 hz.c4
  have c3 := fun W : World => refOne_any W
  obtain ⟨-, -, p3, p4⟩ := mul_rng hz.a1 hz.a4 hz.b1 hz.b4 hz.c1 hz.c4
  obtain ⟨i0, hi, hz0, hz1, hz2⟩ := info_parts infoU
  clear hz
  generalize a * b * c = m at *
  have rep : ∀ k, (List.replicate (k + 1) one).flatMap uc = (List.replicate k one).flatMap uc ++ uc one := fun k => by
    rw [List.replicate_succ', List.flatMap_append]; simp
  have REP := Lib.hid rep
  have HN := Lib.hid hn
  clear hn rep
  go_enter Try.func42, Try.ntmps42
  go_wp2_with ((with_reducible refine (c1 _).mono ?_); clear c1; rintro e w1 ⟨rfl, hw1⟩; have hc1 := Tail.cells hw1; have zw10 := Nat.lt_of_lt_of_le (n := w.heap.size) (by simp <;> omega) hw1.size; have zw11 := Nat.lt_of_lt_of_le (n := w.heap.size + 1) (by simp <;> omega) hw1.size)
  have r1 := ((⟨by simp [go_sem], by simp [go_sem], by simp [go_sem], by simp [go_sem], fun j => by simp [go_sem], by simp⟩ : FW ((w.alloc (.cells #[.int .i64 a, .int .i64 b, .int .i64 c] 22)).alloc (.cells #[.int .i64 0, .int .i64 0, .int .i64 0, .slice none 0 0] 25)) (w.heap.size + 1) 0 0 0 (.slice none 0 0)).later hw1).later ((Below.refl _ _).alloc (Nat.le_refl _) (.cells #[.int .i64 a, .int .i64 b, .int .i64 c, .slice none 0 0] 25))
  have s1 := ((⟨by simp [go_sem], by simp [go_sem], by simp [go_sem], by simp <;> omega⟩ : ABox ((w.alloc (.cells #[.int .i64 a, .int .i64 b, .int .i64 c] 22)).alloc (.cells #[.int .i64 0, .int .i64 0, .int .i64 0, .slice none 0 0] 25)) w.heap.size a b c).later hw1).later ((Below.refl _ _).alloc (Nat.le_refl _) (.cells #[.int .i64 a, .int .i64 b, .int .i64 c, .slice none 0 0] 25))
  have f1 : FW (w1.alloc (.cells #[.int .i64 a, .int .i64 b, .int .i64 c, .slice none 0 0] 25)) w1.heap.size a b c (.slice none 0 0) := ⟨by simp [go_sem], by simp [go_sem], by simp [go_sem], by simp [go_sem], fun j => by simp [go_sem], by simp⟩
  have hB : Below w.heap.size w (w1.alloc (.cells #[.int .i64 a, .int .i64 b, .int .i64 c, .slice none 0 0] 25)) := by repeat (first | (with_reducible exact Below.refl _ _) | (with_reducible refine Below.setCell ?_ ?_ _) | (with_reducible refine Below.drew ?_) | (with_reducible refine Below.alloc ?_ ?_ _) | (with_reducible refine Below.trans ?_ (Below.mono hw1 ?_)) | (with_reducible exact hw1.size) | omega | (simp <;> omega) | (simp <;> (have s := hw1.size; omega)) | (have s0 := hw1.size; (try simp at s0); (try simp); omega))
  have hpw : w.heap.size + 2 ≤ w1.heap.size := by have := hw1.size; simp at this; omega
  clear hw1 hc1 zw10 zw11
  generalize w1.heap.size = p at *
  go_loopw [6] (fun q wr => ∃ (k : Nat) (v : Value), k ≤ n ∧ q = .int .i64 k ∧ Hid (wr.ownsRow (p + 1) 29 5 v k ((List.replicate k one).flatMap uc)) ∧ FW wr p a b c v ∧ FW wr (w.heap.size + 1) 0 0 0 (.slice none 0 0) ∧ ABox wr w.heap.size a b c ∧ Below w.heap.size w wr) (fun q _ => n - (intOf q).toNat)
  case atStart => exact ⟨0, _, by omega, rfl, Lib.hid (World.ownsRow_nil _ _ _ _), f1, r1, s1, hB⟩
  case round =>
    obtain ⟨k, v, hk, rfl, hown, ff, rr, ss, hb⟩ := hrel
    clear f1 r1 s1 hB
    have FF := Lib.hid ff
    have RR := Lib.hid rr
    have SS := Lib.hid ss
    have hpl := ff.lt
    obtain ⟨f0, f1, f2, f3, fr, fl⟩ := ff
    obtain ⟨s0, s1, s2, sl⟩ := ss
    by_cases hlt : k < n
    · have i1 : (k : Int) < 3 * m := by have := HN.out; omega
      clear rr
      go_wp2_with ((with_reducible refine (c2 _).mono ?_); rintro e w3 ⟨rfl, hw3⟩)
      have F3 := FF.out.later hw3
      have R3 := RR.out.later hw3
      have S3 := SS.out.later hw3
      have O3 := Lib.hid (owned_later hown.out hw3)
      have hb3 : Below w.heap.size w w3 := by repeat (first | (with_reducible exact Below.refl _ _) | (with_reducible refine Below.setCell ?_ ?_ _) | (with_reducible refine Below.drew ?_) | (with_reducible refine Below.alloc ?_ ?_ _) | (with_reducible refine Below.trans ?_ (Below.mono hw3 ?_)) | (with_reducible refine Below.trans ?_ (Below.mono hb ?_)) | (with_reducible exact hw3.size) | (with_reducible exact hb.size) | omega | (simp <;> omega) | (simp <;> (have s := hw3.size; omega)) | (simp <;> (have s := hb.size; omega)) | (have s0 := hw3.size; (try simp at s0); have s1 := hb.size; (try simp at s1); (try simp); omega))
      clear f0 f1 f2 f3 fr fl s0 s1 s2 sl hown FF RR SS hw3 hb
      have FF := Lib.hid F3
      have RR := Lib.hid R3
      have SS := Lib.hid S3
      obtain ⟨f0, f1, f2, f3, fr, fl⟩ := F3
      clear R3 S3
      apply Made.region_one 3 (.cells (uc one).toArray 29) (fun g => .slice (some ⟨g, 0, none⟩) 1 1) (some 25) (by kernel_rfl) (by kernel_rfl) (by kernel_rfl)
      · intro B hB
        have kc := @Tail.cell_re
        have hcB := Tail.cells hB
        have zB0 := Nat.lt_of_lt_of_le fl hB.size
        simp only [List.take_succ_cons, List.take_zero]
        repeat (go_big_quiet_step (first | (with_reducible exact Calls.regrown_of (c3 _))))
        exact wpQuiet_nil rfl
      · refine ⟨_, rfl, rfl, fun W => ⟨rfl, ?_⟩⟩
        simp [execOp, go_sem, uc]
      · intro g W hg hW hx
        show wpList _ _ _ (List.drop 4 _) _ _
        simp only [List.drop_succ_cons, List.drop_zero]
        have x0 := Wide.cell_at hx 0 _ rfl
        have x1 := Wide.cell_at hx 1 _ rfl
        have x2 := Wide.cell_at hx 2 _ rfl
        have x3 := Wide.cell_at hx 3 _ rfl
        have x4 := Wide.cell_at hx 4 _ rfl
        have O4 := owned_later O3.out hW
        have F4 := FF.out.later hW
        have R4 := RR.out.later hW
        have S4 := SS.out.later hW
        have hb4 : Below w.heap.size w W := by repeat (first | (with_reducible exact Below.refl _ _) | (with_reducible refine Below.setCell ?_ ?_ _) | (with_reducible refine Below.drew ?_) | (with_reducible refine Below.alloc ?_ ?_ _) | (with_reducible refine Below.trans ?_ (Below.mono hW ?_)) | (with_reducible refine Below.trans ?_ (Below.mono hb3 ?_)) | (with_reducible exact hW.size) | (with_reducible exact hb3.size) | omega | (simp <;> omega) | (simp <;> (have s := hW.size; omega)) | (simp <;> (have s := hb3.size; omega)) | (have s0 := hW.size; (try simp at s0); have s1 := hb3.size; (try simp at s1); (try simp); omega))
        have hs4 := hb4.size
        clear f0 f1 f2 f3 fr fl FF RR SS hW hx
        have FF := Lib.hid F4
        have OO := Lib.hid O4
        obtain ⟨f0, f1, f2, f3, fr, fl⟩ := F4
        have hne := owned_ne O4 (b := p) (by omega)
        have hne1 := owned_ne O4 (b := w.heap.size + 1) (by omega)
        have hne2 := owned_ne O4 (b := w.heap.size) (by omega)
        have hfr := owned_from O4
        clear O4
        go_wp2_with (at_builtin; refine wpList_append_own _ rfl (.tmp 23) (.tmp 25) 23 rfl (p + 1) 29 i0 _ 5 40 Try.underlying23 hi hz0 hz1 hz2 rfl (by decide) v k ((List.replicate k one).flatMap uc) rfl OO.out ⟨g, 0, none⟩ 1 1 (uc one) rfl rfl (five_cells rfl x0 x1 x2 x3 x4) (five_one rfl) (by unfold maxLen; omega) (by omega) (by omega) ?_; intro v' w4 hown4 hgrow4 _; obtain ⟨gv, cv, rfl, hgv⟩ := owned5_some hown4 (by omega); have F5 := FF.out.grown hgrow4 hne; have F5H := Lib.hid F5; obtain ⟨f0, f1, f2, f3, fr, fl⟩ := F5)
        have k5 := grown_setCell w4 ⟨p, 3, none⟩ (.slice (some ⟨gv, 0, none⟩) (k + 1) cv)
        have F6 := F5H.out.set3 (.slice (some ⟨gv, 0, none⟩) (k + 1) cv)
        have R6 := (R4.grown hgrow4 hne1).grown k5 (by simp; omega)
        have S6 := (S4.grown hgrow4 hne2).grown k5 (by simp; omega)
        have O6 := hown4.kept k5 (.inr (by simp [Value.ownBlock]; omega))
        have hb6 := (hb4.grown hgrow4 hs4 (fun j hj => by have := hfr j hj; omega)).setCell (p := ⟨p, 3, none⟩) (by show w.heap.size ≤ p; omega) (.slice (some ⟨gv, 0, none⟩) (k + 1) cv)
        rw [← REP.out k] at O6
        clear hown4 hgrow4 k5 R4 S4 f0 f1 f2 f3 fr fl x0 x1 x2 x3 x4 F5H
        go_wp2
        exact ⟨⟨k + 1, _, by omega, by go_num, Lib.hid O6, F6, R6, S6, hb6⟩, by simp [intOf]; omega⟩
    · obtain rfl : k = n := by omega
      have hk3 : ¬ (k : Int) < 3 * m := by have := HN.out; omega
      obtain ⟨gv, cv, rfl, hgv⟩ := owned5_some hown.out hn0
      have hli : Lies wr gv 0 (List.replicate k one) := owned_lies (T := 29) (base := p + 1) (cap := cv) (by rw [List.length_replicate]; exact hown.out)
      have HL := Lib.hid hli
      clear rr hown hli
      go_wp2_with ((with_reducible refine (c2 _).mono ?_); rintro e w3 ⟨rfl, hw3⟩; obtain ⟨f0, f1, f2, f3, fr, fl⟩ := FF.out.later hw3; obtain ⟨d0, d1, d2, d3, df, dl⟩ := RR.out.later hw3)
      have k5 := grown_setCells (w.heap.size + 1) [.int .i64 a, .int .i64 b, .int .i64 c, .slice (some ⟨gv, 0, none⟩) k cv] 0 w3
      have HL3 := HL.out.later hw3
      refine bodyPost_ret (v := .tuple #[.agg #[.int .i64 a, .int .i64 b, .int .i64 c, .slice (some ⟨gv, 0, none⟩) k cv], .int .i64 0]) ?_ rfl ⟨⟨gv, cv, by rw [List.length_replicate], ?_⟩, ?_⟩
      · simp [results, Try.results42, go_sem, d0, d1, d2, d3]
      · intro i x hx
        obtain ⟨h0, h1, h2, h3, h4⟩ := HL3 i x hx
        have hne : some gv ≠ some (w.heap.size + 1) := by simp; omega
        exact ⟨k5.cell h0 hne, k5.cell h1 hne, k5.cell h2 hne, k5.cell h3 hne, k5.cell h4 hne⟩
      · repeat (first | (with_reducible exact Below.refl _ _) | (with_reducible refine Below.setCell ?_ ?_ _) | (with_reducible refine Below.drew ?_) | (with_reducible refine Below.alloc ?_ ?_ _) | (with_reducible refine Below.trans ?_ (Below.mono hw3 ?_)) | (with_reducible refine Below.trans ?_ (Below.mono hb ?_)) | (with_reducible exact hw3.size) | (with_reducible exact hb.size) | omega | (simp <;> omega) | (simp <;> (have s := hw3.size; omega)) | (simp <;> (have s := hb.size; omega)) | (have s0 := hw3.size; (try simp at s0); have s1 := hb.size; (try simp at s1); (try simp); omega))
end Go.Proofs.Ytoafojojhdcmfaa
