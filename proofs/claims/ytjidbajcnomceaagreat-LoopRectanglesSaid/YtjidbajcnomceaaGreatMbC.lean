/- Means around rectangles, as the program and the document's answers make them.
Conditions: the lists lie in memory as it is written at each theorem. -/
import Derived.Test.YtjidbajcnomceaaGreatLzC
import Derived.Test.YtjidbajcnomceaaGreatMaC
namespace Go.Proofs.YtjidbajcnomceaaGreat
set_option linter.unusedVariables false
set_option linter.unusedSimpArgs false
set_option maxRecDepth 1000000
open Go.RowKit
open Um Tm Lm

set_option maxHeartbeats 1600000 in
theorem wilson_bad (a b c r x y m n : Int) (ao : Option Addr) (cap : Nat) (L : List Q) (w : World) (h : LiesO w ao L) (hr : fldR a b c L r) (h0 : r ≠ 0) (hlen : L.length ≤ 1000000) : Calls Tryz.prog 20 #[.agg #[.int .i64 a, .int .i64 b, .int .i64 c, .slice ao L.length cap], .int .i64 x, .int .i64 y, .int .i64 m, .int .i64 n] w fun e w' => e = .returned (.tuple #[z2, .int .i64 r]) ∧ Below w.heap.size w w' := by
  have q1 : (r == 0) = false := by simpa using h0
  have q2 : (r != 0) = true := by simpa using h0
  have c1 := fun (W : World) (h : LiesO W ao L) => validateF_any a b c r ao cap L W h hr hlen
  have H := Lib.hid h
  clear h hr h0
  go_enter Tryz.func20, Tryz.ntmps20
  go_wp2_with (fail)
  refine (c1 _ (H.out.later (by repeat (first | (with_reducible exact Below.refl _ _) | (with_reducible refine Below.setCell ?_ ?_ _) | (with_reducible refine Below.drew ?_) | (with_reducible refine Below.alloc ?_ ?_ _) | omega | (simp <;> omega))))).mono ?_
  rintro e w1 ⟨rfl, hw1⟩
  have hc1 := Tail.cells hw1
  have zw10 := Nat.lt_of_lt_of_le (n := w.heap.size) (by simp <;> omega) hw1.size; have zw11 := Nat.lt_of_lt_of_le (n := w.heap.size + 1) (by simp <;> omega) hw1.size
  go_wp2
  refine bodyPost_ret (v := .tuple #[z2, .int .i64 r]) ?_ rfl ⟨rfl, ?_⟩
  · simp [results, Tryz.results20, go_sem, hc1, zw10, zw11, z2]
  · repeat (first | (with_reducible exact Below.refl _ _) | (with_reducible refine Below.setCell ?_ ?_ _) | (with_reducible refine Below.drew ?_) | (with_reducible refine Below.alloc ?_ ?_ _) | (with_reducible refine Below.trans ?_ (Below.mono hw1 ?_)) | (with_reducible exact hw1.size) | omega | (simp <;> omega) | (simp <;> (have s := hw1.size; omega)) | (have s0 := hw1.size; (try simp at s0); (try simp); omega))
set_option maxHeartbeats 1600000 in
theorem wilson_arg (a b c x y m n : Int) (ao : Option Addr) (cap : Nat) (L : List Q) (w : World) (h : LiesO w ao L) (hr : fldR a b c L 0) (hx : ¬ Rc x y m n) (hlen : L.length ≤ 1000000) : Calls Tryz.prog 20 #[.agg #[.int .i64 a, .int .i64 b, .int .i64 c, .slice ao L.length cap], .int .i64 x, .int .i64 y, .int .i64 m, .int .i64 n] w fun e w' => e = .returned (.tuple #[z2, .int .i64 1]) ∧ Below w.heap.size w w' := by
  have c1 := fun (W : World) (h : LiesO W ao L) => validateF_any a b c 0 ao cap L W h hr hlen
  have c2 := fun (W : World) => rectangle_bad x y m n W hx
  have H := Lib.hid h
  clear h hr hx
  go_enter Tryz.func20, Tryz.ntmps20
  go_wp2_with (fail)
  refine (c1 _ (H.out.later (by repeat (first | (with_reducible exact Below.refl _ _) | (with_reducible refine Below.setCell ?_ ?_ _) | (with_reducible refine Below.drew ?_) | (with_reducible refine Below.alloc ?_ ?_ _) | omega | (simp <;> omega))))).mono ?_
  rintro e w1 ⟨rfl, hw1⟩
  have hc1 := Tail.cells hw1
  have zw10 := Nat.lt_of_lt_of_le (n := w.heap.size) (by simp <;> omega) hw1.size; have zw11 := Nat.lt_of_lt_of_le (n := w.heap.size + 1) (by simp <;> omega) hw1.size
  go_wp2_with (fail)
  refine (c2 _).mono ?_
  rintro e w2 ⟨rfl, hw2⟩
  have hc2 := Tail.cells hw2
  have y0 := Nat.lt_of_lt_of_le zw10 hw2.size
  have y1 := Nat.lt_of_lt_of_le zw11 hw2.size
  go_wp2
  refine bodyPost_ret (v := .tuple #[z2, .int .i64 1]) ?_ rfl ⟨rfl, ?_⟩
  · simp [results, Tryz.results20, go_sem, hc1, hc2, zw10, zw11, y0, y1, z2]
  · repeat (first | (with_reducible exact Below.refl _ _) | (with_reducible refine Below.setCell ?_ ?_ _) | (with_reducible refine Below.drew ?_) | (with_reducible refine Below.alloc ?_ ?_ _) | (with_reducible refine Below.trans ?_ (Below.mono hw2 ?_)) | (with_reducible refine Below.trans ?_ (Below.mono hw1 ?_)) | (with_reducible exact hw2.size) | (with_reducible exact hw1.size) | omega | (simp <;> omega) | (simp <;> (have s := hw2.size; omega)) | (simp <;> (have s := hw1.size; omega)) | (have s0 := hw2.size; (try simp at s0); have s1 := hw1.size; (try simp at s1); (try simp); omega))
set_option maxHeartbeats 3200000 in
theorem wilson_ok (a b c x y m n : Int) (bl off cap N : Nat) (L : List Q) (w : World) (hl : Lies w bl off L) (hF : Fl a b c L) (hN : (N : Int) = a * b * c) (hx : Rc x y m n) : Calls Tryz.prog 20 #[.agg #[.int .i64 a, .int .i64 b, .int .i64 c, .slice (some ⟨bl, off, none⟩) L.length cap], .int .i64 x, .int .i64 y, .int .i64 m, .int .i64 n] w fun e w' => e = .returned (.tuple #[.agg #[.int .i64 ((meanR (tl a b c L (rc x y m n) N))).1, .int .i64 ((meanR (tl a b c L (rc x y m n) N))).2], .int .i64 0]) ∧ Below w.heap.size w w' := by
  have c1 := fun (W : World) (h : Lies W bl off L) => validateF_any a b c 0 (some ⟨bl, off, none⟩) cap L W (.inr ⟨bl, off, rfl, h⟩) (Fl_fldR hF) (by have := fld_len (Fl_fldR hF); omega)
  have c2 := fun (W : World) => rectangle_ok x y m n W hx
  have c3 := fun (ao : Option Addr) (pc : Nat) (W : World) (h : Lies W bl off L) (hp : LiesOI W ao (rc x y m n)) => meanAlong_ok a b c bl off cap pc N ao L (rc x y m n) W h hp hF hN hx.steps hx.len (hx.clo a b c)
  have H := Lib.hid hl
  clear hl hF hN hx
  generalize rc x y m n = p at *
  generalize meanR (tl a b c L p N) = z at *
  go_enter Tryz.func20, Tryz.ntmps20
  go_wp2_with (fail)
  refine (c1 _ (H.out.later (by repeat (first | (with_reducible exact Below.refl _ _) | (with_reducible refine Below.setCell ?_ ?_ _) | (with_reducible refine Below.drew ?_) | (with_reducible refine Below.alloc ?_ ?_ _) | omega | (simp <;> omega))))).mono ?_
  rintro e w1 ⟨rfl, hw1⟩
  have hc1 := Tail.cells hw1
  have zw10 := Nat.lt_of_lt_of_le (n := w.heap.size) (by simp <;> omega) hw1.size; have zw11 := Nat.lt_of_lt_of_le (n := w.heap.size + 1) (by simp <;> omega) hw1.size
  go_wp2_with (fail)
  refine (c2 _).mono ?_
  rintro e w2 ⟨⟨ao, pc, rfl, hp⟩, hw2⟩
  have HP := Lib.hid hp
  clear hp
  have hc2 := Tail.cells hw2
  have y0 := Nat.lt_of_lt_of_le zw10 hw2.size
  have y1 := Nat.lt_of_lt_of_le zw11 hw2.size
  go_wp2_with (fail)
  refine (c3 _ _ _ (H.out.later (by repeat (first | (with_reducible exact Below.refl _ _) | (with_reducible refine Below.setCell ?_ ?_ _) | (with_reducible refine Below.drew ?_) | (with_reducible refine Below.alloc ?_ ?_ _) | (with_reducible refine Below.trans ?_ (Below.mono hw2 ?_)) | (with_reducible refine Below.trans ?_ (Below.mono hw1 ?_)) | (with_reducible exact hw2.size) | (with_reducible exact hw1.size) | omega | (simp <;> omega) | (simp <;> (have s := hw2.size; omega)) | (simp <;> (have s := hw1.size; omega)) | (have s0 := hw2.size; (try simp at s0); have s1 := hw1.size; (try simp at s1); (try simp); omega)))) HP.out).mono ?_
  rintro e w3 ⟨rfl, hw3⟩
  have hc3 := Tail.cells hw3
  have x0 := Nat.lt_of_lt_of_le y0 hw3.size
  have x1 := Nat.lt_of_lt_of_le y1 hw3.size
  go_wp2
  refine bodyPost_ret (v := .tuple #[.agg #[.int .i64 (z).1, .int .i64 (z).2], .int .i64 0]) ?_ rfl ⟨rfl, ?_⟩
  · simp [results, Tryz.results20, go_sem, hc1, hc2, hc3, zw10, zw11, y0, y1, x0, x1]
  · repeat (first | (with_reducible exact Below.refl _ _) | (with_reducible refine Below.setCell ?_ ?_ _) | (with_reducible refine Below.drew ?_) | (with_reducible refine Below.alloc ?_ ?_ _) | (with_reducible refine Below.trans ?_ (Below.mono hw3 ?_)) | (with_reducible refine Below.trans ?_ (Below.mono hw2 ?_)) | (with_reducible refine Below.trans ?_ (Below.mono hw1 ?_)) | (with_reducible exact hw3.size) | (with_reducible exact hw2.size) | (with_reducible exact hw1.size) | omega | (simp <;> omega) | (simp <;> (have s := hw3.size; omega)) | (simp <;> (have s := hw2.size; omega)) | (simp <;> (have s := hw1.size; omega)) | (have s0 := hw3.size; (try simp at s0); have s1 := hw2.size; (try simp at s1); have s2 := hw1.size; (try simp at s2); (try simp); omega))
set_option maxHeartbeats 1600000 in
theorem refWilson_bad (a b c r x y m n : Int) (ao : Option Addr) (cap : Nat) (L : List Q) (w : World) (h : LiesO w ao L) (hr : fldR a b c L r) (h0 : r ≠ 0) (hlen : L.length ≤ 1000000) : Calls Tryz.prog 21 #[.agg #[.int .i64 a, .int .i64 b, .int .i64 c, .slice ao L.length cap], .int .i64 x, .int .i64 y, .int .i64 m, .int .i64 n] w fun e w' => e = .returned (.tuple #[z2, .int .i64 r]) ∧ Below w.heap.size w w' := by
  have q1 : (r == 0) = false := by simpa using h0
  have q2 : (r != 0) = true := by simpa using h0
  have c1 := fun (W : World) (h : LiesO W ao L) => refValidateF_any a b c r ao cap L W h hr hlen
  have H := Lib.hid h
  clear h hr h0
  go_enter Tryz.func21, Tryz.ntmps21
  go_wp2_with (fail)
  refine (c1 _ (H.out.later (by repeat (first | (with_reducible exact Below.refl _ _) | (with_reducible refine Below.setCell ?_ ?_ _) | (with_reducible refine Below.drew ?_) | (with_reducible refine Below.alloc ?_ ?_ _) | omega | (simp <;> omega))))).mono ?_
  rintro e w1 ⟨rfl, hw1⟩
  have hc1 := Tail.cells hw1
  have zw10 := Nat.lt_of_lt_of_le (n := w.heap.size) (by simp <;> omega) hw1.size; have zw11 := Nat.lt_of_lt_of_le (n := w.heap.size + 1) (by simp <;> omega) hw1.size
  go_wp2
  refine bodyPost_ret (v := .tuple #[z2, .int .i64 r]) ?_ rfl ⟨rfl, ?_⟩
  · simp [results, Tryz.results21, go_sem, hc1, zw10, zw11, z2]
  · repeat (first | (with_reducible exact Below.refl _ _) | (with_reducible refine Below.setCell ?_ ?_ _) | (with_reducible refine Below.drew ?_) | (with_reducible refine Below.alloc ?_ ?_ _) | (with_reducible refine Below.trans ?_ (Below.mono hw1 ?_)) | (with_reducible exact hw1.size) | omega | (simp <;> omega) | (simp <;> (have s := hw1.size; omega)) | (have s0 := hw1.size; (try simp at s0); (try simp); omega))
set_option maxHeartbeats 1600000 in
theorem refWilson_arg (a b c x y m n : Int) (ao : Option Addr) (cap : Nat) (L : List Q) (w : World) (h : LiesO w ao L) (hr : fldR a b c L 0) (hx : ¬ Rc x y m n) (hlen : L.length ≤ 1000000) : Calls Tryz.prog 21 #[.agg #[.int .i64 a, .int .i64 b, .int .i64 c, .slice ao L.length cap], .int .i64 x, .int .i64 y, .int .i64 m, .int .i64 n] w fun e w' => e = .returned (.tuple #[z2, .int .i64 1]) ∧ Below w.heap.size w w' := by
  have c1 := fun (W : World) (h : LiesO W ao L) => refValidateF_any a b c 0 ao cap L W h hr hlen
  have c2 := fun (W : World) => refRectangle_bad x y m n W hx
  have H := Lib.hid h
  clear h hr hx
  go_enter Tryz.func21, Tryz.ntmps21
  go_wp2_with (fail)
  refine (c1 _ (H.out.later (by repeat (first | (with_reducible exact Below.refl _ _) | (with_reducible refine Below.setCell ?_ ?_ _) | (with_reducible refine Below.drew ?_) | (with_reducible refine Below.alloc ?_ ?_ _) | omega | (simp <;> omega))))).mono ?_
  rintro e w1 ⟨rfl, hw1⟩
  have hc1 := Tail.cells hw1
  have zw10 := Nat.lt_of_lt_of_le (n := w.heap.size) (by simp <;> omega) hw1.size; have zw11 := Nat.lt_of_lt_of_le (n := w.heap.size + 1) (by simp <;> omega) hw1.size
  go_wp2_with (fail)
  refine (c2 _).mono ?_
  rintro e w2 ⟨rfl, hw2⟩
  have hc2 := Tail.cells hw2
  have y0 := Nat.lt_of_lt_of_le zw10 hw2.size
  have y1 := Nat.lt_of_lt_of_le zw11 hw2.size
  go_wp2
  refine bodyPost_ret (v := .tuple #[z2, .int .i64 1]) ?_ rfl ⟨rfl, ?_⟩
  · simp [results, Tryz.results21, go_sem, hc1, hc2, zw10, zw11, y0, y1, z2]
  · repeat (first | (with_reducible exact Below.refl _ _) | (with_reducible refine Below.setCell ?_ ?_ _) | (with_reducible refine Below.drew ?_) | (with_reducible refine Below.alloc ?_ ?_ _) | (with_reducible refine Below.trans ?_ (Below.mono hw2 ?_)) | (with_reducible refine Below.trans ?_ (Below.mono hw1 ?_)) | (with_reducible exact hw2.size) | (with_reducible exact hw1.size) | omega | (simp <;> omega) | (simp <;> (have s := hw2.size; omega)) | (simp <;> (have s := hw1.size; omega)) | (have s0 := hw2.size; (try simp at s0); have s1 := hw1.size; (try simp at s1); (try simp); omega))
set_option maxHeartbeats 3200000 in
theorem refWilson_ok (a b c x y m n : Int) (bl off cap N : Nat) (L : List Q) (w : World) (hl : Lies w bl off L) (hF : Fl a b c L) (hN : (N : Int) = a * b * c) (hx : Rc x y m n) : Calls Tryz.prog 21 #[.agg #[.int .i64 a, .int .i64 b, .int .i64 c, .slice (some ⟨bl, off, none⟩) L.length cap], .int .i64 x, .int .i64 y, .int .i64 m, .int .i64 n] w fun e w' => e = .returned (.tuple #[.agg #[.int .i64 ((meanR (tl a b c L (rc x y m n) N))).1, .int .i64 ((meanR (tl a b c L (rc x y m n) N))).2], .int .i64 0]) ∧ Below w.heap.size w w' := by
  have c1 := fun (W : World) (h : Lies W bl off L) => refValidateF_any a b c 0 (some ⟨bl, off, none⟩) cap L W (.inr ⟨bl, off, rfl, h⟩) (Fl_fldR hF) (by have := fld_len (Fl_fldR hF); omega)
  have c2 := fun (W : World) => refRectangle_ok x y m n W hx
  have c3 := fun (ao : Option Addr) (pc : Nat) (W : World) (h : Lies W bl off L) (hp : LiesOI W ao (rc x y m n)) => over_ok a b c bl off cap pc N ao L (rc x y m n) W h hp hF hN hx.steps hx.len
  have H := Lib.hid hl
  clear hl hF hN hx
  generalize rc x y m n = p at *
  generalize meanR (tl a b c L p N) = z at *
  go_enter Tryz.func21, Tryz.ntmps21
  go_wp2_with (fail)
  refine (c1 _ (H.out.later (by repeat (first | (with_reducible exact Below.refl _ _) | (with_reducible refine Below.setCell ?_ ?_ _) | (with_reducible refine Below.drew ?_) | (with_reducible refine Below.alloc ?_ ?_ _) | omega | (simp <;> omega))))).mono ?_
  rintro e w1 ⟨rfl, hw1⟩
  have hc1 := Tail.cells hw1
  have zw10 := Nat.lt_of_lt_of_le (n := w.heap.size) (by simp <;> omega) hw1.size; have zw11 := Nat.lt_of_lt_of_le (n := w.heap.size + 1) (by simp <;> omega) hw1.size
  go_wp2_with (fail)
  refine (c2 _).mono ?_
  rintro e w2 ⟨⟨ao, pc, rfl, hp⟩, hw2⟩
  have HP := Lib.hid hp
  clear hp
  have hc2 := Tail.cells hw2
  have y0 := Nat.lt_of_lt_of_le zw10 hw2.size
  have y1 := Nat.lt_of_lt_of_le zw11 hw2.size
  go_wp2_with (fail)
  refine (c3 _ _ _ (H.out.later (by repeat (first | (with_reducible exact Below.refl _ _) | (with_reducible refine Below.setCell ?_ ?_ _) | (with_reducible refine Below.drew ?_) | (with_reducible refine Below.alloc ?_ ?_ _) | (with_reducible refine Below.trans ?_ (Below.mono hw2 ?_)) | (with_reducible refine Below.trans ?_ (Below.mono hw1 ?_)) | (with_reducible exact hw2.size) | (with_reducible exact hw1.size) | omega | (simp <;> omega) | (simp <;> (have s := hw2.size; omega)) | (simp <;> (have s := hw1.size; omega)) | (have s0 := hw2.size; (try simp at s0); have s1 := hw1.size; (try simp at s1); (try simp); omega)))) HP.out).mono ?_
  rintro e w3 ⟨rfl, hw3⟩
  have hc3 := Tail.cells hw3
  have x0 := Nat.lt_of_lt_of_le y0 hw3.size
  have x1 := Nat.lt_of_lt_of_le y1 hw3.size
  go_wp2
  refine bodyPost_ret (v := .tuple #[.agg #[.int .i64 (z).1, .int .i64 (z).2], .int .i64 0]) ?_ rfl ⟨rfl, ?_⟩
  · simp [results, Tryz.results21, go_sem, hc1, hc2, hc3, zw10, zw11, y0, y1, x0, x1]
  · repeat (first | (with_reducible exact Below.refl _ _) | (with_reducible refine Below.setCell ?_ ?_ _) | (with_reducible refine Below.drew ?_) | (with_reducible refine Below.alloc ?_ ?_ _) | (with_reducible refine Below.trans ?_ (Below.mono hw3 ?_)) | (with_reducible refine Below.trans ?_ (Below.mono hw2 ?_)) | (with_reducible refine Below.trans ?_ (Below.mono hw1 ?_)) | (with_reducible exact hw3.size) | (with_reducible exact hw2.size) | (with_reducible exact hw1.size) | omega | (simp <;> omega) | (simp <;> (have s := hw3.size; omega)) | (simp <;> (have s := hw2.size; omega)) | (simp <;> (have s := hw1.size; omega)) | (have s0 := hw3.size; (try simp at s0); have s1 := hw2.size; (try simp at s1); have s2 := hw1.size; (try simp at s2); (try simp); omega))
end Go.Proofs.YtjidbajcnomceaaGreat
