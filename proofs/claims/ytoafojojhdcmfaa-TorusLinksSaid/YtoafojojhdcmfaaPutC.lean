/- A link that is read, and a field with another link, as the program and the document's answers make them.
Conditions: those written at each theorem. -/
import Derived.Test.YtoafojojhdcmfaaCopyC
import Derived.Test.YtoafojojhdcmfaaLinkC
import Derived.Test.YtoafojojhdcmfaaAlongC
namespace Go.Proofs.Ytoafojojhdcmfaa
set_option linter.unusedVariables false
set_option linter.unusedSimpArgs false
set_option maxRecDepth 1000000
open Go.RowKit
open Um Tm

set_option maxHeartbeats 1600000 in
theorem clone_some (bl off cap : Nat) (L : List Q) (w : World) (hl : Lies w bl off L) (hpos : 0 < L.length) (hlen : L.length ≤ 100) : Calls Try.prog 84 #[.slice (some ⟨bl, off, none⟩) L.length cap] w fun e w' => ∃ g k : Nat, e = .returned (.slice (some ⟨g, 0, none⟩) L.length k) ∧ LBox w' g L ∧ w.heap.size ≤ g ∧ Below w.heap.size w w' := by
  obtain ⟨i0, hi, hz0, hz1, hz2⟩ := info_parts infoU
  have H := Lib.hid hl
  have q := fun W : World => Lib.run_eql_slice_nil (P := Try.prog) W 23 29 (some ⟨bl, off, none⟩) L.length cap 0 0 Try.underlying23
  clear hl
  go_enter Try.func84, Try.ntmps84
  go_wp2_with (at_builtin; refine wpList_append_own _ rfl (.tmp 5) (.tmp 6) 23 rfl w.heap.size 29 i0 _ 5 40 Try.underlying23 hi hz0 hz1 hz2 rfl (by decide) (.slice (some ⟨w.heap.size, 0, none⟩) 0 0) 0 [] rfl (World.ownsRow_lit w #[] 0 (Nat.le_refl _) (by unfold maxLen; omega) (by simp)) ⟨bl, off, none⟩ L.length cap (L.flatMap uc) rfl (flat_len uc 5 uc_len L) (lies_news (H.out.later ((Below.refl _ _).alloc (Nat.le_refl _) _))) (lies_ones L) (by unfold maxLen; omega) (by omega) (by simp) ?_; intro v' w1 hown hgrow _)
  obtain ⟨g, k, rfl, hg⟩ := owned5_some hown (by omega)
  obtain ⟨LB, hgb⟩ := owned_LBox (Nat.zero_add _) (by simpa using hown)
  have hb := ((Below.refl w.heap.size w).alloc (Nat.le_refl _) (.cells #[] 29)).grown hgrow (by simp) (fun j hj => by simp [Value.ownBlock] at hj; omega)
  clear hown hgrow
  go_ret
  exact ⟨g, k, by simp, LB, hgb, hb⟩

theorem unit_eq {s t : Int} (h0 : 0 ≤ s) (d0 : 0 ≤ t) : (3 * s + t).toNat = (3 * s + t).toNat := rfl

set_option maxHeartbeats 1600000 in
theorem get_bad (a b c s d r : Int) (fo : Option Addr) (cap : Nat) (L : List Q) (w : World) (hl : LiesO w fo L) (hr : lnR a b c L s d r) (h0 : r ≠ 0) (hlen : L.length ≤ 1000000) : Calls Try.prog 22 #[.agg #[.int .i64 a, .int .i64 b, .int .i64 c, .slice fo L.length cap], .int .i64 s, .int .i64 d] w fun e w' => e = .returned (.tuple #[.agg #[.int .i64 zero.a, .int .i64 zero.b, .int .i64 zero.c, .int .i64 zero.d, .int .i64 zero.n], .int .i64 r]) ∧ Below w.heap.size w w' := by
  have H := Lib.hid hl
  have c1 := fun (W : World) (h : LiesO W fo L) => checkLink_any a b c s d r fo cap L W h hr hlen
  have h0' : (r != 0) = true := by simpa using h0
  clear hl hr h0
  go_enter Try.func22, Try.ntmps22
  go_wp2_with ((with_reducible refine (c1 _ (H.out.later (by repeat (first | (with_reducible exact Below.refl _ _) | (with_reducible refine Below.setCell ?_ ?_ _) | (with_reducible refine Below.drew ?_) | (with_reducible refine Below.alloc ?_ ?_ _) | omega | (simp <;> omega))))).mono ?_); rintro e w1 ⟨rfl, hw1⟩; have hc1 := Tail.cells hw1; have zw10 := Nat.lt_of_lt_of_le (n := w.heap.size) (by simp <;> omega) hw1.size; have zw11 := Nat.lt_of_lt_of_le (n := w.heap.size + 1) (by simp <;> omega) hw1.size)
  refine bodyPost_ret (v := .tuple #[.agg #[.int .i64 zero.a, .int .i64 zero.b, .int .i64 zero.c, .int .i64 zero.d, .int .i64 zero.n], .int .i64 r]) ?_ rfl ⟨rfl, ?_⟩
  · simp [results, Try.results22, go_sem, hc1, zw10, zw11, zero]
  · repeat (first | (with_reducible exact Below.refl _ _) | (with_reducible refine Below.setCell ?_ ?_ _) | (with_reducible refine Below.drew ?_) | (with_reducible refine Below.alloc ?_ ?_ _) | (with_reducible refine Below.trans ?_ (Below.mono hw1 ?_)) | (with_reducible exact hw1.size) | omega | (simp <;> omega) | (simp <;> (have s := hw1.size; omega)) | (have s0 := hw1.size; (try simp at s0); (try simp); omega))
set_option maxHeartbeats 1600000 in
theorem get_ok (a b c s d : Int) (bl off cap : Nat) (L : List Q) (w : World) (hl : Lies w bl off L) (hr : lnR a b c L s d 0) (hF : Fl a b c L) (s0 : 0 ≤ s) (s1 : s < a * b * c) (d0 : 0 ≤ d) (d1 : d ≤ 2) : Calls Try.prog 22 #[.agg #[.int .i64 a, .int .i64 b, .int .i64 c, .slice (some ⟨bl, off, none⟩) L.length cap], .int .i64 s, .int .i64 d] w fun e w' => e = .returned (.tuple #[.agg #[.int .i64 (lk L (3 * s + d)).a, .int .i64 (lk L (3 * s + d)).b, .int .i64 (lk L (3 * s + d)).c, .int .i64 (lk L (3 * s + d)).d, .int .i64 (lk L (3 * s + d)).n], .int .i64 0]) ∧ Below w.heap.size w w' := by
  have H := Lib.hid hl
  have hlen := fld_len (Fl_fldR hF)
  have hp16 := hF.z.p
  have c1 := fun (W : World) (h : Lies W bl off L) => checkLink_any a b c s d 0 (some ⟨bl, off, none⟩) cap L W (.inr ⟨bl, off, rfl, h⟩) hr (by omega)
  have hx := lk_get (L := L) (i := 3 * s + d) (by omega) (by rw [hF.n]; omega)
  have i1 : 3 * s + d < (L.length : Int) := by rw [hF.n]; omega
  have s16 : s < 16 := by omega
  have HX := Lib.hid hx
  clear hl hr hF hx s1 hp16
  generalize lk L (3 * s + d) = x at *
  go_enter Try.func22, Try.ntmps22
  go_wp2_with ((with_reducible refine (c1 _ (H.out.later (by repeat (first | (with_reducible exact Below.refl _ _) | (with_reducible refine Below.setCell ?_ ?_ _) | (with_reducible refine Below.drew ?_) | (with_reducible refine Below.alloc ?_ ?_ _) | omega | (simp <;> omega))))).mono ?_); rintro e w1 ⟨rfl, hw1⟩; have hc1 := Tail.cells hw1; have zw10 := Nat.lt_of_lt_of_le (n := w.heap.size) (by simp <;> omega) hw1.size; have zw11 := Nat.lt_of_lt_of_le (n := w.heap.size + 1) (by simp <;> omega) hw1.size; obtain ⟨l0, l1, l2, l3, l4⟩ := (H.out.later (show Below w.heap.size w w1 by repeat (first | (with_reducible exact Below.refl _ _) | (with_reducible refine Below.setCell ?_ ?_ _) | (with_reducible refine Below.drew ?_) | (with_reducible refine Below.alloc ?_ ?_ _) | (with_reducible refine Below.trans ?_ (Below.mono hw1 ?_)) | (with_reducible exact hw1.size) | omega | (simp <;> omega) | (simp <;> (have s := hw1.size; omega)) | (have s0 := hw1.size; (try simp at s0); (try simp); omega)))).atP HX.out)
  refine bodyPost_ret (v := .tuple #[.agg #[.int .i64 x.a, .int .i64 x.b, .int .i64 x.c, .int .i64 x.d, .int .i64 x.n], .int .i64 0]) ?_ rfl ⟨rfl, ?_⟩
  · simp [results, Try.results22, go_sem, hc1, zw10, zw11]
  · repeat (first | (with_reducible exact Below.refl _ _) | (with_reducible refine Below.setCell ?_ ?_ _) | (with_reducible refine Below.drew ?_) | (with_reducible refine Below.alloc ?_ ?_ _) | (with_reducible refine Below.trans ?_ (Below.mono hw1 ?_)) | (with_reducible exact hw1.size) | omega | (simp <;> omega) | (simp <;> (have s := hw1.size; omega)) | (have s0 := hw1.size; (try simp at s0); (try simp); omega))

set_option maxHeartbeats 1600000 in
theorem refGet_bad (a b c s d r : Int) (fo : Option Addr) (cap : Nat) (L : List Q) (w : World) (hl : LiesO w fo L) (hr : lnR a b c L s d r) (h0 : r ≠ 0) (hlen : L.length ≤ 1000000) : Calls Try.prog 23 #[.agg #[.int .i64 a, .int .i64 b, .int .i64 c, .slice fo L.length cap], .int .i64 s, .int .i64 d] w fun e w' => e = .returned (.tuple #[.agg #[.int .i64 zero.a, .int .i64 zero.b, .int .i64 zero.c, .int .i64 zero.d, .int .i64 zero.n], .int .i64 r]) ∧ Below w.heap.size w w' := by
  have H := Lib.hid hl
  have c1 := fun (W : World) (h : LiesO W fo L) => refLinked_any a b c s d r fo cap L W h hr hlen
  have h0' : (r != 0) = true := by simpa using h0
  clear hl hr h0
  go_enter Try.func23, Try.ntmps23
  go_wp2_with ((with_reducible refine (c1 _ (H.out.later (by repeat (first | (with_reducible exact Below.refl _ _) | (with_reducible refine Below.setCell ?_ ?_ _) | (with_reducible refine Below.drew ?_) | (with_reducible refine Below.alloc ?_ ?_ _) | omega | (simp <;> omega))))).mono ?_); rintro e w1 ⟨rfl, hw1⟩; have hc1 := Tail.cells hw1; have zw10 := Nat.lt_of_lt_of_le (n := w.heap.size) (by simp <;> omega) hw1.size; have zw11 := Nat.lt_of_lt_of_le (n := w.heap.size + 1) (by simp <;> omega) hw1.size)
  refine bodyPost_ret (v := .tuple #[.agg #[.int .i64 zero.a, .int .i64 zero.b, .int .i64 zero.c, .int .i64 zero.d, .int .i64 zero.n], .int .i64 r]) ?_ rfl ⟨rfl, ?_⟩
  · simp [results, Try.results23, go_sem, hc1, zw10, zw11, zero]
  · repeat (first | (with_reducible exact Below.refl _ _) | (with_reducible refine Below.setCell ?_ ?_ _) | (with_reducible refine Below.drew ?_) | (with_reducible refine Below.alloc ?_ ?_ _) | (with_reducible refine Below.trans ?_ (Below.mono hw1 ?_)) | (with_reducible exact hw1.size) | omega | (simp <;> omega) | (simp <;> (have s := hw1.size; omega)) | (have s0 := hw1.size; (try simp at s0); (try simp); omega))
set_option maxHeartbeats 1600000 in
theorem refGet_ok (a b c s d : Int) (bl off cap : Nat) (L : List Q) (w : World) (hl : Lies w bl off L) (hr : lnR a b c L s d 0) (hF : Fl a b c L) (s0 : 0 ≤ s) (s1 : s < a * b * c) (d0 : 0 ≤ d) (d1 : d ≤ 2) : Calls Try.prog 23 #[.agg #[.int .i64 a, .int .i64 b, .int .i64 c, .slice (some ⟨bl, off, none⟩) L.length cap], .int .i64 s, .int .i64 d] w fun e w' => e = .returned (.tuple #[.agg #[.int .i64 (lk L (3 * s + d)).a, .int .i64 (lk L (3 * s + d)).b, .int .i64 (lk L (3 * s + d)).c, .int .i64 (lk L (3 * s + d)).d, .int .i64 (lk L (3 * s + d)).n], .int .i64 0]) ∧ Below w.heap.size w w' := by
  have H := Lib.hid hl
  have hlen := fld_len (Fl_fldR hF)
  have hp16 := hF.z.p
  have c1 := fun (W : World) (h : Lies W bl off L) => refLinked_any a b c s d 0 (some ⟨bl, off, none⟩) cap L W (.inr ⟨bl, off, rfl, h⟩) hr (by omega)
  have hx := lk_get (L := L) (i := 3 * s + d) (by omega) (by rw [hF.n]; omega)
  have i1 : 3 * s + d < (L.length : Int) := by rw [hF.n]; omega
  have s16 : s < 16 := by omega
  have HX := Lib.hid hx
  clear hl hr hF hx s1 hp16
  generalize lk L (3 * s + d) = x at *
  go_enter Try.func23, Try.ntmps23
  go_wp2_with ((with_reducible refine (c1 _ (H.out.later (by repeat (first | (with_reducible exact Below.refl _ _) | (with_reducible refine Below.setCell ?_ ?_ _) | (with_reducible refine Below.drew ?_) | (with_reducible refine Below.alloc ?_ ?_ _) | omega | (simp <;> omega))))).mono ?_); rintro e w1 ⟨rfl, hw1⟩; have hc1 := Tail.cells hw1; have zw10 := Nat.lt_of_lt_of_le (n := w.heap.size) (by simp <;> omega) hw1.size; have zw11 := Nat.lt_of_lt_of_le (n := w.heap.size + 1) (by simp <;> omega) hw1.size; obtain ⟨l0, l1, l2, l3, l4⟩ := (H.out.later (show Below w.heap.size w w1 by repeat (first | (with_reducible exact Below.refl _ _) | (with_reducible refine Below.setCell ?_ ?_ _) | (with_reducible refine Below.drew ?_) | (with_reducible refine Below.alloc ?_ ?_ _) | (with_reducible refine Below.trans ?_ (Below.mono hw1 ?_)) | (with_reducible exact hw1.size) | omega | (simp <;> omega) | (simp <;> (have s := hw1.size; omega)) | (have s0 := hw1.size; (try simp at s0); (try simp); omega)))).atP HX.out)
  refine bodyPost_ret (v := .tuple #[.agg #[.int .i64 x.a, .int .i64 x.b, .int .i64 x.c, .int .i64 x.d, .int .i64 x.n], .int .i64 0]) ?_ rfl ⟨rfl, ?_⟩
  · simp [results, Try.results23, go_sem, hc1, zw10, zw11]
  · repeat (first | (with_reducible exact Below.refl _ _) | (with_reducible refine Below.setCell ?_ ?_ _) | (with_reducible refine Below.drew ?_) | (with_reducible refine Below.alloc ?_ ?_ _) | (with_reducible refine Below.trans ?_ (Below.mono hw1 ?_)) | (with_reducible exact hw1.size) | omega | (simp <;> omega) | (simp <;> (have s := hw1.size; omega)) | (have s0 := hw1.size; (try simp at s0); (try simp); omega))

set_option maxHeartbeats 1600000 in
theorem put_bad (a b c s d r : Int) (u : Q) (fo : Option Addr) (cap : Nat) (L : List Q) (w : World) (hl : LiesO w fo L) (hr : lnR a b c L s d r) (h0 : r ≠ 0) (hlen : L.length ≤ 1000000) : Calls Try.prog 24 #[.agg #[.int .i64 a, .int .i64 b, .int .i64 c, .slice fo L.length cap], .int .i64 s, .int .i64 d, .agg #[.int .i64 u.a, .int .i64 u.b, .int .i64 u.c, .int .i64 u.d, .int .i64 u.n]] w fun e w' => e = .returned (.tuple #[.agg #[.int .i64 0, .int .i64 0, .int .i64 0, .slice none 0 0], .int .i64 r]) ∧ Below w.heap.size w w' := by
  have H := Lib.hid hl
  have c1 := fun (W : World) (h : LiesO W fo L) => checkLink_any a b c s d r fo cap L W h hr hlen
  have h0' : (r != 0) = true := by simpa using h0
  clear hl hr h0
  go_enter Try.func24, Try.ntmps24
  go_wp2_with ((with_reducible refine (c1 _ (H.out.later (by repeat (first | (with_reducible exact Below.refl _ _) | (with_reducible refine Below.setCell ?_ ?_ _) | (with_reducible refine Below.drew ?_) | (with_reducible refine Below.alloc ?_ ?_ _) | omega | (simp <;> omega))))).mono ?_); rintro e w1 ⟨rfl, hw1⟩; have hc1 := Tail.cells hw1; have zw10 := Nat.lt_of_lt_of_le (n := w.heap.size) (by simp <;> omega) hw1.size; have zw11 := Nat.lt_of_lt_of_le (n := w.heap.size + 1) (by simp <;> omega) hw1.size; have zw12 := Nat.lt_of_lt_of_le (n := w.heap.size + 2) (by simp <;> omega) hw1.size)
  refine bodyPost_ret (v := .tuple #[.agg #[.int .i64 0, .int .i64 0, .int .i64 0, .slice none 0 0], .int .i64 r]) ?_ rfl ⟨rfl, ?_⟩
  · simp [results, Try.results24, go_sem, hc1, zw10, zw11, zw12]
  · repeat (first | (with_reducible exact Below.refl _ _) | (with_reducible refine Below.setCell ?_ ?_ _) | (with_reducible refine Below.drew ?_) | (with_reducible refine Below.alloc ?_ ?_ _) | (with_reducible refine Below.trans ?_ (Below.mono hw1 ?_)) | (with_reducible exact hw1.size) | omega | (simp <;> omega) | (simp <;> (have s := hw1.size; omega)) | (have s0 := hw1.size; (try simp at s0); (try simp); omega))
set_option maxHeartbeats 1600000 in
theorem put_bad2 (a b c s d r : Int) (u : Q) (fo : Option Addr) (cap : Nat) (L : List Q) (w : World) (hl : LiesO w fo L) (hr : lnR a b c L s d 0) (hu : LinkR u r) (h0 : r ≠ 0) (hlen : L.length ≤ 1000000) : Calls Try.prog 24 #[.agg #[.int .i64 a, .int .i64 b, .int .i64 c, .slice fo L.length cap], .int .i64 s, .int .i64 d, .agg #[.int .i64 u.a, .int .i64 u.b, .int .i64 u.c, .int .i64 u.d, .int .i64 u.n]] w fun e w' => e = .returned (.tuple #[.agg #[.int .i64 0, .int .i64 0, .int .i64 0, .slice none 0 0], .int .i64 r]) ∧ Below w.heap.size w w' := by
  have H := Lib.hid hl
  have c1 := fun (W : World) (h : LiesO W fo L) => checkLink_any a b c s d 0 fo cap L W h hr hlen
  have c2 := fun (W : World) => checkUnit_any u r W hu
  have h0' : (r != 0) = true := by simpa using h0
  clear hl hr h0 hu
  go_enter Try.func24, Try.ntmps24
  go_wp2_with (first | ((with_reducible refine (c1 _ (H.out.later (by repeat (first | (with_reducible exact Below.refl _ _) | (with_reducible refine Below.setCell ?_ ?_ _) | (with_reducible refine Below.drew ?_) | (with_reducible refine Below.alloc ?_ ?_ _) | omega | (simp <;> omega))))).mono ?_); rintro e w1 ⟨rfl, hw1⟩; have hc1 := Tail.cells hw1; have zw10 := Nat.lt_of_lt_of_le (n := w.heap.size) (by simp <;> omega) hw1.size; have zw11 := Nat.lt_of_lt_of_le (n := w.heap.size + 1) (by simp <;> omega) hw1.size; have zw12 := Nat.lt_of_lt_of_le (n := w.heap.size + 2) (by simp <;> omega) hw1.size) | ((with_reducible refine (c2 _).mono ?_); rintro e w2 ⟨rfl, hw2⟩; have hc2 := Tail.cells hw2; have z0 := Nat.lt_of_lt_of_le zw10 hw2.size; have z1 := Nat.lt_of_lt_of_le zw11 hw2.size; have z2 := Nat.lt_of_lt_of_le zw12 hw2.size))
  refine bodyPost_ret (v := .tuple #[.agg #[.int .i64 0, .int .i64 0, .int .i64 0, .slice none 0 0], .int .i64 r]) ?_ rfl ⟨rfl, ?_⟩
  · simp [results, Try.results24, go_sem, hc1, hc2, zw10, zw11, zw12, z0, z1, z2]
  · repeat (first | (with_reducible exact Below.refl _ _) | (with_reducible refine Below.setCell ?_ ?_ _) | (with_reducible refine Below.drew ?_) | (with_reducible refine Below.alloc ?_ ?_ _) | (with_reducible refine Below.trans ?_ (Below.mono hw2 ?_)) | (with_reducible refine Below.trans ?_ (Below.mono hw1 ?_)) | (with_reducible exact hw2.size) | (with_reducible exact hw1.size) | omega | (simp <;> omega) | (simp <;> (have s := hw2.size; omega)) | (simp <;> (have s := hw1.size; omega)) | (have s0 := hw2.size; (try simp at s0); have s1 := hw1.size; (try simp at s1); (try simp); omega))

set_option maxHeartbeats 3200000 in
theorem put_ok (a b c s d : Int) (u : Q) (bl off cap : Nat) (L : List Q) (w : World) (hl : Lies w bl off L) (hF : Fl a b c L) (s0 : 0 ≤ s) (s1 : s < a * b * c) (d0 : 0 ≤ d) (d1 : d ≤ 2) (hu : LinkR u 0) : Calls Try.prog 24 #[.agg #[.int .i64 a, .int .i64 b, .int .i64 c, .slice (some ⟨bl, off, none⟩) L.length cap], .int .i64 s, .int .i64 d, .agg #[.int .i64 u.a, .int .i64 u.b, .int .i64 u.c, .int .i64 u.d, .int .i64 u.n]] w fun e w' => ∃ g k : Nat, e = .returned (.tuple #[.agg #[.int .i64 a, .int .i64 b, .int .i64 c, .slice (some ⟨g, 0, none⟩) L.length k], .int .i64 0]) ∧ LBox w' g (L.set (3 * s + d).toNat u) ∧ w.heap.size ≤ g ∧ Below w.heap.size w w' := by
  have H := Lib.hid hl
  have hlen := fld_len (Fl_fldR hF)
  have hp16 := hF.z.p
  have hr : lnR a b c L s d 0 := .inr (.inr (.inr ⟨Fl_fldR hF, s0, s1, d0, d1, rfl⟩))
  have c1 := fun (W : World) (h : Lies W bl off L) => checkLink_any a b c s d 0 (some ⟨bl, off, none⟩) cap L W (.inr ⟨bl, off, rfl, h⟩) hr (by omega)
  have c2 := fun (W : World) => checkUnit_any u 0 W hu
  have i1 : 3 * s + d < (L.length : Int) := by rw [hF.n]; omega
  have hpos : 0 < L.length := by omega
  have c3 := fun (W : World) (h : Lies W bl off L) => clone_some bl off cap L W h hpos (by omega)
  have s16 : s < 16 := by omega
  have i2 : (3 * s + d).toNat < L.length := by omega
  have hx : L[(3 * s + d).toNat]? = some L[(3 * s + d).toNat] := List.getElem?_eq_getElem i2
  have HX := Lib.hid hx
  clear hl hr hF hx s1 hp16 hu
  generalize L[(3 * s + d).toNat] = x at *
  go_enter Try.func24, Try.ntmps24
  go_wp2_with (first | ((with_reducible refine (c1 _ (H.out.later (by repeat (first | (with_reducible exact Below.refl _ _) | (with_reducible refine Below.setCell ?_ ?_ _) | (with_reducible refine Below.drew ?_) | (with_reducible refine Below.alloc ?_ ?_ _) | omega | (simp <;> omega))))).mono ?_); rintro e w1 ⟨rfl, hw1⟩; have hc1 := Tail.cells hw1; have zw10 := Nat.lt_of_lt_of_le (n := w.heap.size) (by simp <;> omega) hw1.size; have zw11 := Nat.lt_of_lt_of_le (n := w.heap.size + 1) (by simp <;> omega) hw1.size; have zw12 := Nat.lt_of_lt_of_le (n := w.heap.size + 2) (by simp <;> omega) hw1.size) | ((with_reducible refine (c2 _).mono ?_); rintro e w2 ⟨rfl, hw2⟩; have hc2 := Tail.cells hw2; have z0 := Nat.lt_of_lt_of_le zw10 hw2.size; have z1 := Nat.lt_of_lt_of_le zw11 hw2.size; have z2 := Nat.lt_of_lt_of_le zw12 hw2.size) | ((with_reducible refine (c3 _ (H.out.later (by repeat (first | (with_reducible exact Below.refl _ _) | (with_reducible refine Below.setCell ?_ ?_ _) | (with_reducible refine Below.drew ?_) | (with_reducible refine Below.alloc ?_ ?_ _) | (with_reducible refine Below.trans ?_ (Below.mono hw2 ?_)) | (with_reducible refine Below.trans ?_ (Below.mono hw1 ?_)) | (with_reducible exact hw2.size) | (with_reducible exact hw1.size) | omega | (simp <;> omega) | (simp <;> (have s := hw2.size; omega)) | (simp <;> (have s := hw1.size; omega)) | (have s0 := hw2.size; (try simp at s0); have s1 := hw1.size; (try simp at s1); (try simp); omega))))).mono ?_); rintro e w3 ⟨g, k, rfl, LB, hg, hw3⟩; have HLB := Lib.hid LB; have hc3 := Tail.cells hw3; have y0 := Nat.lt_of_lt_of_le z0 hw3.size; have y1 := Nat.lt_of_lt_of_le z1 hw3.size; have y2 := Nat.lt_of_lt_of_le z2 hw3.size; obtain ⟨l0, l1, l2, l3, l4⟩ := LB.at HX.out; have lf := LB.free; have lbl := LB.lt; clear LB))
  have R3 := (((⟨by simp [go_sem], by simp [go_sem], by simp [go_sem], by simp [go_sem], fun j => by simp [go_sem], by simp⟩ : FW (((w.alloc (.cells #[.int .i64 a, .int .i64 b, .int .i64 c, .slice (some ⟨bl, off, none⟩) L.length cap] 25)).alloc (.cells #[.int .i64 u.a, .int .i64 u.b, .int .i64 u.c, .int .i64 u.d, .int .i64 u.n] 29)).alloc (.cells #[.int .i64 0, .int .i64 0, .int .i64 0, .slice none 0 0] 25)) (w.heap.size + 1 + 1) 0 0 0 (.slice none 0 0)).later hw1).later hw2).later hw3
  obtain ⟨d0, d1, d2, d3, df, dl⟩ := R3
  have hgl : w.heap.size + 1 + 1 < g := by have := hw1.size; have := hw2.size; simp at *; omega
  have hneA : ¬ g = w.heap.size + 1 + 1 := by omega
  have hneB : ¬ w.heap.size + 1 + 1 = g := by omega
  have hb3 : Below w.heap.size w w3 := by repeat (first | (with_reducible exact Below.refl _ _) | (with_reducible refine Below.setCell ?_ ?_ _) | (with_reducible refine Below.drew ?_) | (with_reducible refine Below.alloc ?_ ?_ _) | (with_reducible refine Below.trans ?_ (Below.mono hw3 ?_)) | (with_reducible refine Below.trans ?_ (Below.mono hw2 ?_)) | (with_reducible refine Below.trans ?_ (Below.mono hw1 ?_)) | (with_reducible exact hw3.size) | (with_reducible exact hw2.size) | (with_reducible exact hw1.size) | omega | (simp <;> omega) | (simp <;> (have s := hw3.size; omega)) | (simp <;> (have s := hw2.size; omega)) | (simp <;> (have s := hw1.size; omega)) | (have s0 := hw3.size; (try simp at s0); have s1 := hw2.size; (try simp at s1); have s2 := hw1.size; (try simp at s2); (try simp); omega))
  have G1 := grown_setCells g (uc u) ((3 * s + d).toNat * 5) w3
  have L1 := HLB.out.put (3 * s + d).toNat i2 u
  have hb4 := hb3.grown G1 hb3.size (fun j hj => by simp at hj; omega)
  have G2 := grown_setCells (w.heap.size + 1 + 1) [.int .i64 a, .int .i64 b, .int .i64 c, .slice (some ⟨g, 0, none⟩) L.length k] 0 (w3.setCells g ((3 * s + d).toNat * 5) (uc u))
  have L2 := L1.grown G2 (by simp; omega)
  have hb5 := hb4.grown G2 hb4.size (fun j hj => by simp at hj; omega)
  have L3 := L2
  have hb6 := hb5
  refine bodyPost_ret (v := .tuple #[.agg #[.int .i64 a, .int .i64 b, .int .i64 c, .slice (some ⟨g, 0, none⟩) L.length k], .int .i64 0]) ?_ rfl ⟨g, k, rfl, L3, by omega, hb6⟩
  simp [results, Try.results24, go_sem, d0, d1, d2, d3, dl, hneA, hneB]

set_option maxHeartbeats 1600000 in
theorem refPut_bad (a b c s d r : Int) (u : Q) (fo : Option Addr) (cap : Nat) (L : List Q) (w : World) (hl : LiesO w fo L) (hr : lnR a b c L s d r) (h0 : r ≠ 0) (hlen : L.length ≤ 1000000) : Calls Try.prog 25 #[.agg #[.int .i64 a, .int .i64 b, .int .i64 c, .slice fo L.length cap], .int .i64 s, .int .i64 d, .agg #[.int .i64 u.a, .int .i64 u.b, .int .i64 u.c, .int .i64 u.d, .int .i64 u.n]] w fun e w' => e = .returned (.tuple #[.agg #[.int .i64 0, .int .i64 0, .int .i64 0, .slice none 0 0], .int .i64 r]) ∧ Below w.heap.size w w' := by
  have H := Lib.hid hl
  have c1 := fun (W : World) (h : LiesO W fo L) => refLinked_any a b c s d r fo cap L W h hr hlen
  have h0' : (r != 0) = true := by simpa using h0
  clear hl hr h0
  go_enter Try.func25, Try.ntmps25
  go_wp2_with ((with_reducible refine (c1 _ (H.out.later (by repeat (first | (with_reducible exact Below.refl _ _) | (with_reducible refine Below.setCell ?_ ?_ _) | (with_reducible refine Below.drew ?_) | (with_reducible refine Below.alloc ?_ ?_ _) | omega | (simp <;> omega))))).mono ?_); rintro e w1 ⟨rfl, hw1⟩; have hc1 := Tail.cells hw1; have zw10 := Nat.lt_of_lt_of_le (n := w.heap.size) (by simp <;> omega) hw1.size; have zw11 := Nat.lt_of_lt_of_le (n := w.heap.size + 1) (by simp <;> omega) hw1.size; have zw12 := Nat.lt_of_lt_of_le (n := w.heap.size + 2) (by simp <;> omega) hw1.size)
  refine bodyPost_ret (v := .tuple #[.agg #[.int .i64 0, .int .i64 0, .int .i64 0, .slice none 0 0], .int .i64 r]) ?_ rfl ⟨rfl, ?_⟩
  · simp [results, Try.results25, go_sem, hc1, zw10, zw11, zw12]
  · repeat (first | (with_reducible exact Below.refl _ _) | (with_reducible refine Below.setCell ?_ ?_ _) | (with_reducible refine Below.drew ?_) | (with_reducible refine Below.alloc ?_ ?_ _) | (with_reducible refine Below.trans ?_ (Below.mono hw1 ?_)) | (with_reducible exact hw1.size) | omega | (simp <;> omega) | (simp <;> (have s := hw1.size; omega)) | (have s0 := hw1.size; (try simp at s0); (try simp); omega))
set_option maxHeartbeats 1600000 in
theorem refPut_bad2 (a b c s d r : Int) (u : Q) (fo : Option Addr) (cap : Nat) (L : List Q) (w : World) (hl : LiesO w fo L) (hr : lnR a b c L s d 0) (hu : LinkR u r) (h0 : r ≠ 0) (hlen : L.length ≤ 1000000) : Calls Try.prog 25 #[.agg #[.int .i64 a, .int .i64 b, .int .i64 c, .slice fo L.length cap], .int .i64 s, .int .i64 d, .agg #[.int .i64 u.a, .int .i64 u.b, .int .i64 u.c, .int .i64 u.d, .int .i64 u.n]] w fun e w' => e = .returned (.tuple #[.agg #[.int .i64 0, .int .i64 0, .int .i64 0, .slice none 0 0], .int .i64 r]) ∧ Below w.heap.size w w' := by
  have H := Lib.hid hl
  have c1 := fun (W : World) (h : LiesO W fo L) => refLinked_any a b c s d 0 fo cap L W h hr hlen
  have c2 := fun (W : World) => refIsLink_any u r W hu
  have h0' : (r != 0) = true := by simpa using h0
  clear hl hr h0 hu
  go_enter Try.func25, Try.ntmps25
  go_wp2_with (first | ((with_reducible refine (c1 _ (H.out.later (by repeat (first | (with_reducible exact Below.refl _ _) | (with_reducible refine Below.setCell ?_ ?_ _) | (with_reducible refine Below.drew ?_) | (with_reducible refine Below.alloc ?_ ?_ _) | omega | (simp <;> omega))))).mono ?_); rintro e w1 ⟨rfl, hw1⟩; have hc1 := Tail.cells hw1; have zw10 := Nat.lt_of_lt_of_le (n := w.heap.size) (by simp <;> omega) hw1.size; have zw11 := Nat.lt_of_lt_of_le (n := w.heap.size + 1) (by simp <;> omega) hw1.size; have zw12 := Nat.lt_of_lt_of_le (n := w.heap.size + 2) (by simp <;> omega) hw1.size) | ((with_reducible refine (c2 _).mono ?_); rintro e w2 ⟨rfl, hw2⟩; have hc2 := Tail.cells hw2; have z0 := Nat.lt_of_lt_of_le zw10 hw2.size; have z1 := Nat.lt_of_lt_of_le zw11 hw2.size; have z2 := Nat.lt_of_lt_of_le zw12 hw2.size))
  refine bodyPost_ret (v := .tuple #[.agg #[.int .i64 0, .int .i64 0, .int .i64 0, .slice none 0 0], .int .i64 r]) ?_ rfl ⟨rfl, ?_⟩
  · simp [results, Try.results25, go_sem, hc1, hc2, zw10, zw11, zw12, z0, z1, z2]
  · repeat (first | (with_reducible exact Below.refl _ _) | (with_reducible refine Below.setCell ?_ ?_ _) | (with_reducible refine Below.drew ?_) | (with_reducible refine Below.alloc ?_ ?_ _) | (with_reducible refine Below.trans ?_ (Below.mono hw2 ?_)) | (with_reducible refine Below.trans ?_ (Below.mono hw1 ?_)) | (with_reducible exact hw2.size) | (with_reducible exact hw1.size) | omega | (simp <;> omega) | (simp <;> (have s := hw2.size; omega)) | (simp <;> (have s := hw1.size; omega)) | (have s0 := hw2.size; (try simp at s0); have s1 := hw1.size; (try simp at s1); (try simp); omega))

set_option maxHeartbeats 3200000 in
theorem refPut_ok (a b c s d : Int) (u : Q) (bl off cap : Nat) (L : List Q) (w : World) (hl : Lies w bl off L) (hF : Fl a b c L) (s0 : 0 ≤ s) (s1 : s < a * b * c) (d0 : 0 ≤ d) (d1 : d ≤ 2) (hu : LinkR u 0) : Calls Try.prog 25 #[.agg #[.int .i64 a, .int .i64 b, .int .i64 c, .slice (some ⟨bl, off, none⟩) L.length cap], .int .i64 s, .int .i64 d, .agg #[.int .i64 u.a, .int .i64 u.b, .int .i64 u.c, .int .i64 u.d, .int .i64 u.n]] w fun e w' => ∃ g k : Nat, e = .returned (.tuple #[.agg #[.int .i64 a, .int .i64 b, .int .i64 c, .slice (some ⟨g, 0, none⟩) L.length k], .int .i64 0]) ∧ LBox w' g (L.set (3 * s + d).toNat u) ∧ w.heap.size ≤ g ∧ Below w.heap.size w w' := by
  have H := Lib.hid hl
  have hlen := fld_len (Fl_fldR hF)
  have hp16 := hF.z.p
  have hr : lnR a b c L s d 0 := .inr (.inr (.inr ⟨Fl_fldR hF, s0, s1, d0, d1, rfl⟩))
  have c1 := fun (W : World) (h : Lies W bl off L) => refLinked_any a b c s d 0 (some ⟨bl, off, none⟩) cap L W (.inr ⟨bl, off, rfl, h⟩) hr (by omega)
  have c2 := fun (W : World) => refIsLink_any u 0 W hu
  have i1 : 3 * s + d < (L.length : Int) := by rw [hF.n]; omega
  have hpos : 0 < L.length := by omega
  have c3 := fun (W : World) (h : Lies W bl off L) => refCopy_some a b c bl off cap L W h hpos (by omega)
  have s16 : s < 16 := by omega
  have i2 : (3 * s + d).toNat < L.length := by omega
  have hx : L[(3 * s + d).toNat]? = some L[(3 * s + d).toNat] := List.getElem?_eq_getElem i2
  have HX := Lib.hid hx
  clear hl hr hF hx s1 hp16 hu
  generalize L[(3 * s + d).toNat] = x at *
  go_enter Try.func25, Try.ntmps25
  go_wp2_with (first | ((with_reducible refine (c1 _ (H.out.later (by repeat (first | (with_reducible exact Below.refl _ _) | (with_reducible refine Below.setCell ?_ ?_ _) | (with_reducible refine Below.drew ?_) | (with_reducible refine Below.alloc ?_ ?_ _) | omega | (simp <;> omega))))).mono ?_); rintro e w1 ⟨rfl, hw1⟩; have hc1 := Tail.cells hw1; have zw10 := Nat.lt_of_lt_of_le (n := w.heap.size) (by simp <;> omega) hw1.size; have zw11 := Nat.lt_of_lt_of_le (n := w.heap.size + 1) (by simp <;> omega) hw1.size; have zw12 := Nat.lt_of_lt_of_le (n := w.heap.size + 2) (by simp <;> omega) hw1.size) | ((with_reducible refine (c2 _).mono ?_); rintro e w2 ⟨rfl, hw2⟩; have hc2 := Tail.cells hw2; have z0 := Nat.lt_of_lt_of_le zw10 hw2.size; have z1 := Nat.lt_of_lt_of_le zw11 hw2.size; have z2 := Nat.lt_of_lt_of_le zw12 hw2.size) | ((with_reducible refine (c3 _ (H.out.later (by repeat (first | (with_reducible exact Below.refl _ _) | (with_reducible refine Below.setCell ?_ ?_ _) | (with_reducible refine Below.drew ?_) | (with_reducible refine Below.alloc ?_ ?_ _) | (with_reducible refine Below.trans ?_ (Below.mono hw2 ?_)) | (with_reducible refine Below.trans ?_ (Below.mono hw1 ?_)) | (with_reducible exact hw2.size) | (with_reducible exact hw1.size) | omega | (simp <;> omega) | (simp <;> (have s := hw2.size; omega)) | (simp <;> (have s := hw1.size; omega)) | (have s0 := hw2.size; (try simp at s0); have s1 := hw1.size; (try simp at s1); (try simp); omega))))).mono ?_); rintro e w3 ⟨g, k, rfl, LB, hg, hw3⟩; have HLB := Lib.hid LB; have hc3 := Tail.cells hw3; have y0 := Nat.lt_of_lt_of_le z0 hw3.size; have y1 := Nat.lt_of_lt_of_le z1 hw3.size; have y2 := Nat.lt_of_lt_of_le z2 hw3.size; obtain ⟨l0, l1, l2, l3, l4⟩ := LB.at HX.out; have lf := LB.free; have lbl := LB.lt; clear LB))
  have R3 := (((⟨by simp [go_sem], by simp [go_sem], by simp [go_sem], by simp [go_sem], fun j => by simp [go_sem], by simp⟩ : FW (((w.alloc (.cells #[.int .i64 a, .int .i64 b, .int .i64 c, .slice (some ⟨bl, off, none⟩) L.length cap] 25)).alloc (.cells #[.int .i64 u.a, .int .i64 u.b, .int .i64 u.c, .int .i64 u.d, .int .i64 u.n] 29)).alloc (.cells #[.int .i64 0, .int .i64 0, .int .i64 0, .slice none 0 0] 25)) (w.heap.size + 1 + 1) 0 0 0 (.slice none 0 0)).later hw1).later hw2).later hw3
  obtain ⟨d0, d1, d2, d3, df, dl⟩ := R3
  have hgl : w.heap.size + 1 + 1 < g := by have := hw1.size; have := hw2.size; simp at *; omega
  have hneA : ¬ g = w.heap.size + 1 + 1 := by omega
  have hneB : ¬ w.heap.size + 1 + 1 = g := by omega
  have hb3 : Below w.heap.size w w3 := by repeat (first | (with_reducible exact Below.refl _ _) | (with_reducible refine Below.setCell ?_ ?_ _) | (with_reducible refine Below.drew ?_) | (with_reducible refine Below.alloc ?_ ?_ _) | (with_reducible refine Below.trans ?_ (Below.mono hw3 ?_)) | (with_reducible refine Below.trans ?_ (Below.mono hw2 ?_)) | (with_reducible refine Below.trans ?_ (Below.mono hw1 ?_)) | (with_reducible exact hw3.size) | (with_reducible exact hw2.size) | (with_reducible exact hw1.size) | omega | (simp <;> omega) | (simp <;> (have s := hw3.size; omega)) | (simp <;> (have s := hw2.size; omega)) | (simp <;> (have s := hw1.size; omega)) | (have s0 := hw3.size; (try simp at s0); have s1 := hw2.size; (try simp at s1); have s2 := hw1.size; (try simp at s2); (try simp); omega))
  have G1 := grown_setCells g (uc u) ((3 * s + d).toNat * 5) w3
  have L1 := HLB.out.put (3 * s + d).toNat i2 u
  have hb4 := hb3.grown G1 hb3.size (fun j hj => by simp at hj; omega)
  have G2 := grown_setCells (w.heap.size + 1 + 1) [.int .i64 a, .int .i64 b, .int .i64 c, .slice (some ⟨g, 0, none⟩) L.length k] 0 (w3.setCells g ((3 * s + d).toNat * 5) (uc u))
  have L2 := L1.grown G2 (by simp; omega)
  have hb5 := hb4.grown G2 hb4.size (fun j hj => by simp at hj; omega)
  have L3 := L2.later ((Below.refl _ _).alloc (Nat.le_refl _) (.cells #[.int .i64 a, .int .i64 b, .int .i64 c, .slice (some ⟨g, 0, none⟩) L.length k] 25))
  have hb6 := hb5.alloc hb5.size (.cells #[.int .i64 a, .int .i64 b, .int .i64 c, .slice (some ⟨g, 0, none⟩) L.length k] 25)
  refine bodyPost_ret (v := .tuple #[.agg #[.int .i64 a, .int .i64 b, .int .i64 c, .slice (some ⟨g, 0, none⟩) L.length k], .int .i64 0]) ?_ rfl ⟨g, k, rfl, L3, by omega, hb6⟩
  simp [results, Try.results25, go_sem, d0, d1, d2, d3, dl, hneA, hneB]
end Go.Proofs.Ytoafojojhdcmfaa
