/- GaugeValidates: which gauge transformations are right, and their inverses, in new memory, are what the document says, for all fields and lists of units.
Conditions: none. -/
import Derived.Test.YtegeamfacajeeaaGsC
import Derived.Test.YtegeamfacajeeaaGauE
import Derived.Test.YtegeamfacajeeaaSameU4
import Derived.Test.YtegeamfacajeeaaOpenU
import Derived.Test.YtegeamfacajeeaaJFacts
namespace Go.Proofs.Ytegeamfacajeeaa
set_option linter.unusedVariables false
set_option linter.unusedSimpArgs false
set_option maxRecDepth 1000000
open Go.ChangeShapes Go.WideShapes Go.ChangeAt Go.RowKit
open Um Tm

set_option maxHeartbeats 3200000 in
theorem gVa_long (a b c : Int) (ao go : Option Addr) (cap gc : Nat) (L G : List Q) (w : World) (h : 200 < L.length) : Calls Try.prog 3 #[.agg #[.int .i64 a, .int .i64 b, .int .i64 c, .slice ao L.length cap], .slice go G.length gc] w fun e w' => e = .returned (.bool true) ∧ Below w.heap.size w w' := by
  have kn := sane4_any
  have c0 := fun W : World => long4_any a b c ao cap L true W (.inl ⟨h, rfl⟩)
  go_enter Try.func3, Try.ntmps3
  go_wp2_with ((with_reducible refine (c0 _).mono ?_); rintro e w1 ⟨rfl, hw1⟩)
  go_wp2_with ((with_reducible refine (kn _).mono ?_); rintro e w2 ⟨rfl, hw2⟩)
  go_ret
  exact ⟨rfl, by repeat (first | (with_reducible exact Below.refl _ _) | (with_reducible refine Below.setCell ?_ ?_ _) | (with_reducible refine Below.drew ?_) | (with_reducible refine Below.alloc ?_ ?_ _) | (with_reducible refine Below.trans ?_ (Below.mono hw2 ?_)) | (with_reducible refine Below.trans ?_ (Below.mono hw1 ?_)) | (with_reducible exact hw2.size) | (with_reducible exact hw1.size) | omega | (simp <;> omega) | (simp <;> (have s := hw2.size; omega)) | (simp <;> (have s := hw1.size; omega)) | (have s0 := hw2.size; (try simp at s0); have s1 := hw1.size; (try simp at s1); (try simp); omega))⟩
set_option maxHeartbeats 3200000 in
theorem gVa_many (a b c : Int) (ao go : Option Addr) (cap gc : Nat) (L G : List Q) (w : World) (h : L.length ≤ 200) (h2 : 100 < G.length) : Calls Try.prog 3 #[.agg #[.int .i64 a, .int .i64 b, .int .i64 c, .slice ao L.length cap], .slice go G.length gc] w fun e w' => e = .returned (.bool true) ∧ Below w.heap.size w w' := by
  have kn := sane4_any
  have i1 : (G.length : Int) > 100 := by omega
  have c0 := fun W : World => long4_any a b c ao cap L false W (.inr ⟨h, rfl⟩)
  go_enter Try.func3, Try.ntmps3
  go_wp2_with ((with_reducible refine (c0 _).mono ?_); rintro e w1 ⟨rfl, hw1⟩)
  go_wp2_with ((with_reducible refine (kn _).mono ?_); rintro e w2 ⟨rfl, hw2⟩)
  go_ret
  exact ⟨rfl, by repeat (first | (with_reducible exact Below.refl _ _) | (with_reducible refine Below.setCell ?_ ?_ _) | (with_reducible refine Below.drew ?_) | (with_reducible refine Below.alloc ?_ ?_ _) | (with_reducible refine Below.trans ?_ (Below.mono hw2 ?_)) | (with_reducible refine Below.trans ?_ (Below.mono hw1 ?_)) | (with_reducible exact hw2.size) | (with_reducible exact hw1.size) | omega | (simp <;> omega) | (simp <;> (have s := hw2.size; omega)) | (simp <;> (have s := hw1.size; omega)) | (have s0 := hw2.size; (try simp at s0); have s1 := hw1.size; (try simp at s1); (try simp); omega))⟩
set_option maxHeartbeats 12800000 in
theorem gVa_errS (a b c r : Int) (ao : Option Addr) (ad : Addr) (cap gc : Nat) (L G : List Q) (w : World) (h : L.length ≤ 200) (h2 : G.length ≤ 100) (hm : LiesO w ao L) (hg : LiesO w (some ad) G)
    (c1 : ∀ (W : World) (so : Option Addr) (sc : Nat), LiesO W ao L → LiesO W so G → Calls Try.prog 15 #[.agg #[.int .i64 a, .int .i64 b, .int .i64 c, .slice ao L.length cap], .slice so G.length sc] W fun e w' => e = .returned (.tuple #[.slice none 0 0, .int .i64 r]) ∧ Below W.heap.size W w')
    (c2 : ∀ (W : World), LiesO W ao L → LiesO W (some ad) G → Calls Try.prog 16 #[.agg #[.int .i64 a, .int .i64 b, .int .i64 c, .slice ao L.length cap], .slice (some ad) G.length gc] W fun e w' => e = .returned (.tuple #[.slice none 0 0, .int .i64 r]) ∧ Below W.heap.size W w')
    (c3 : ∀ (W : World), LiesO W ao L → LiesO W (some ad) G → Calls Try.prog 17 #[.agg #[.int .i64 a, .int .i64 b, .int .i64 c, .slice ao L.length cap], .slice (some ad) G.length gc] W fun e w' => e = .returned (.int .i64 r) ∧ Below W.heap.size W w')
    (c4 : ∀ (W : World), LiesO W ao L → LiesO W (some ad) G → Calls Try.prog 18 #[.agg #[.int .i64 a, .int .i64 b, .int .i64 c, .slice ao L.length cap], .slice (some ad) G.length gc] W fun e w' => e = .returned (.int .i64 r) ∧ Below W.heap.size W w') : Calls Try.prog 3 #[.agg #[.int .i64 a, .int .i64 b, .int .i64 c, .slice ao L.length cap], .slice (some ad) G.length gc] w fun e w' => e = .returned (.bool true) ∧ Below w.heap.size w w' := by
  have kn := sane4_any
  have c0 := fun W : World => long4_any a b c ao cap L false W (.inr ⟨h, rfl⟩)
  have i1 : ¬ (G.length : Int) > 100 := by omega
  obtain ⟨i0, hi, hz0, hz1, hz2⟩ := info_parts infoU
  have su := fun (W : World) (o o' : Option Addr) (k k' : Nat) (h1 : LiesO W o G) (h2 : LiesO W o' G) => sameU4_any o o' k k' G W h1 h2 (by omega)
  have sb := fun W : World => sameU4_nil none none 0 0 W
  have qr : (r != r) = false := by simp
  have H := Lib.hid hm
  have K := Lib.hid hg
  have hg6 : G.length ≤ 100 := by omega
  clear hm hg h h2
  go_enter Try.func3, Try.ntmps3
  have F0 := Lib.hid (FW.n1 (w := w) (x := a) (y := b) (z := c) (v := .slice ao L.length cap) (T := 25))
  go_wp2_with (fail)
  refine (c0 _).mono ?_
  rintro e w1 ⟨rfl, hw1⟩
  have b1 := bel1 hw1
  have F1 := Lib.hid (F0.out.later hw1)
  clear c0 hw1 F0
  have own0 := Lib.hid (World.ownsRow_lit (base := w1.heap.size) (e := 34) (size := 5) w1 #[] 0 (Nat.le_refl _) (by unfold maxLen; omega) (by simp))
  have hnews := Lib.hid (news_some (K.out.later (b1.trans ((ba1 (o := .cells #[] 34)).mono b1.size))))
  go_wp2_with (at_builtin; refine wpList_append_own _ rfl (.tmp 19) (.tmp 20) 23 rfl w1.heap.size 34 i0 _ 5 40 Try.underlying23 hi hz0 hz1 hz2 rfl (by decide) (.slice (some ⟨w1.heap.size, 0, none⟩) 0 0) 0 [] rfl own0.out ad G.length gc (G.flatMap uc) rfl (flat_len uc 5 uc_len G) hnews.out (lies_ones G) (by unfold maxLen; omega) (by omega) (by simp) ?_; intro v2 w2 hown2 hgrow2 _; have hown2' : w2.ownsRow w1.heap.size 34 5 v2 G.length (G.flatMap uc) := (by simpa using hown2); obtain ⟨so, sc, rfl, hso⟩ := owned_liesOG rfl hown2'; have b12 : Below w1.heap.size w1 w2 := ((Below.refl _ w1).alloc (Nat.le_refl _) (.cells #[] 34)).grown hgrow2 (by simp) (fun j hj => owned_from own0.out j hj); clear hown2 hown2' hgrow2 hnews own0; obtain ⟨f0, f1, f2, f3, ff, fl⟩ := F1.out.later b12)
  have b2 := b1.trans (b12.mono b1.size)
  have F2 := Lib.hid (F1.out.later b12)
  have S2 := Lib.hid hso
  have b2s := b2.size
  clear b12 hso F1 f0 f1 f2 f3 ff fl
  refine (c1 _ _ _ (H.out.later b2) S2.out).mono ?_
  rintro e w3 ⟨rfl, hw3⟩
  have b3 := b2.trans (hw3.mono b2.size)
  have S3 := Lib.hid (S2.out.later hw3)
  have F3 := Lib.hid (F2.out.later hw3)
  clear hw3 c1 F2 S2
  obtain ⟨f0, f1, f2, f3, ff, fl⟩ := F3.out
  go_wp2_with (fail)
  refine (c2 _ (H.out.later b3) (K.out.later b3)).mono ?_
  rintro e w4 ⟨rfl, hw4⟩
  have b4 := b3.trans (hw4.mono b3.size)
  have S4 := Lib.hid (S3.out.later hw4)
  have F4 := Lib.hid (F3.out.later hw4)
  have H4 := Lib.hid (H.out.later b4)
  have K4 := Lib.hid (K.out.later b4)
  clear hw4 c2 F3 S3 f0 f1 f2 f3 ff fl
  obtain ⟨f0, f1, f2, f3, ff, fl⟩ := F4.out
  go_wp2_with (fail)
  refine Tail.region_below (by kernel_rfl) (by kernel_rfl) ?_
  have kc := @Tail.cell_re
  repeat (go_big_quiet_step (first | (with_reducible exact Calls.regrown_of (c3 _ (liesO_re H4.out _ _) (liesO_re K4.out _ _))) | (with_reducible exact Calls.regrown_of (c4 _ (liesO_re H4.out _ _) (liesO_re K4.out _ _))) | (with_reducible exact Calls.regrown_of (sb _))))
  refine wpQuiet_nil ?_
  intro w5 hw5
  have S5 := Lib.hid (S4.out.later hw5)
  have b5 := b4.trans (hw5.mono b4.size)
  have K5 := Lib.hid (K.out.later b5)
  clear hw5 f0 f1 f2 f3 ff fl F4 S4 H4 K4 sb
  go_wp2
  refine wp_loop_rounds 1 ?_
  rw [rounds_succ]
  go_wp2_with (first | ((with_reducible refine (su _ _ _ _ _ S5.out K5.out).mono ?_); rintro e w6 ⟨rfl, hw6⟩) | ((with_reducible refine (kn _).mono ?_); rintro e w7 ⟨rfl, hw7⟩))
  go_ret
  exact ⟨rfl, by repeat (first | (with_reducible exact Below.refl _ _) | (with_reducible refine Below.setCell ?_ ?_ _) | (with_reducible refine Below.drew ?_) | (with_reducible refine Below.alloc ?_ ?_ _) | (with_reducible refine Below.trans ?_ (Below.mono hw7 ?_)) | (with_reducible refine Below.trans ?_ (Below.mono hw6 ?_)) | (with_reducible refine Below.trans ?_ (Below.mono b5 ?_)) | (with_reducible exact hw7.size) | (with_reducible exact hw6.size) | (with_reducible exact b5.size) | omega | (simp <;> omega) | (simp <;> (have s := hw7.size; omega)) | (simp <;> (have s := hw6.size; omega)) | (simp <;> (have s := b5.size; omega)) | (have s0 := hw7.size; (try simp at s0); have s1 := hw6.size; (try simp at s1); have s2 := b5.size; (try simp at s2); (try simp); omega))⟩
set_option maxHeartbeats 12800000 in
theorem gVa_errN (a b c r : Int) (ao : Option Addr) (cap gc : Nat) (L G : List Q) (w : World) (h : L.length ≤ 200) (h2 : G.length ≤ 100) (hm : LiesO w ao L) (hg : LiesO w none G) (hgc : gc = 0)
    (c1 : ∀ (W : World) (so : Option Addr) (sc : Nat), LiesO W ao L → LiesO W so G → Calls Try.prog 15 #[.agg #[.int .i64 a, .int .i64 b, .int .i64 c, .slice ao L.length cap], .slice so G.length sc] W fun e w' => e = .returned (.tuple #[.slice none 0 0, .int .i64 r]) ∧ Below W.heap.size W w')
    (c2 : ∀ (W : World), LiesO W ao L → LiesO W none G → Calls Try.prog 16 #[.agg #[.int .i64 a, .int .i64 b, .int .i64 c, .slice ao L.length cap], .slice none G.length gc] W fun e w' => e = .returned (.tuple #[.slice none 0 0, .int .i64 r]) ∧ Below W.heap.size W w')
    (c3 : ∀ (W : World), LiesO W ao L → LiesO W none G → Calls Try.prog 17 #[.agg #[.int .i64 a, .int .i64 b, .int .i64 c, .slice ao L.length cap], .slice none G.length gc] W fun e w' => e = .returned (.int .i64 r) ∧ Below W.heap.size W w')
    (c4 : ∀ (W : World), LiesO W ao L → LiesO W none G → Calls Try.prog 18 #[.agg #[.int .i64 a, .int .i64 b, .int .i64 c, .slice ao L.length cap], .slice none G.length gc] W fun e w' => e = .returned (.int .i64 r) ∧ Below W.heap.size W w') : Calls Try.prog 3 #[.agg #[.int .i64 a, .int .i64 b, .int .i64 c, .slice ao L.length cap], .slice none G.length gc] w fun e w' => e = .returned (.bool true) ∧ Below w.heap.size w w' := by
  have kn := sane4_any
  subst hgc
  obtain rfl : G = [] := by
    rcases hg with h | ⟨_, _, h, _⟩
    · exact h
    · cases h
  have c0 := fun W : World => long4_any a b c ao cap L false W (.inr ⟨h, rfl⟩)
  have i1 : ¬ ((([] : List Q).length : Nat) : Int) > 100 := by simp
  obtain ⟨i0, hi, hz0, hz1, hz2⟩ := info_parts infoU
  have su := fun (W : World) (o o' : Option Addr) (k k' : Nat) (_ : LiesO W o ([] : List Q)) (_ : LiesO W o' ([] : List Q)) => sameU4_nil o o' k k' W
  have sb := fun W : World => sameU4_nil none none 0 0 W
  have qr : (r != r) = false := by simp
  have H := Lib.hid hm
  have K := Lib.hid hg
  have hg6 : ([] : List Q).length ≤ 100 := by simp
  clear hm hg h h2
  go_enter Try.func3, Try.ntmps3
  have F0 := Lib.hid (FW.n1 (w := w) (x := a) (y := b) (z := c) (v := .slice ao L.length cap) (T := 25))
  go_wp2_with (fail)
  refine (c0 _).mono ?_
  rintro e w1 ⟨rfl, hw1⟩
  have b1 := bel1 hw1
  have F1 := Lib.hid (F0.out.later hw1)
  clear c0 hw1 F0
  have own0 := Lib.hid (World.ownsRow_lit (base := w1.heap.size) (e := 34) (size := 5) w1 #[] 0 (Nat.le_refl _) (by unfold maxLen; omega) (by simp))
  obtain ⟨f0, f1, f2, f3, ff, fl⟩ := F1.out
  go_wp2_with (at_builtin; refine wpList_append_own_none rfl (.tmp 19) (.tmp 20) 23 rfl w1.heap.size 34 i0 5 Try.underlying23 hi (.slice (some ⟨w1.heap.size, 0, none⟩) 0 0) 0 [] rfl own0.out rfl ?_)
  have b12 : Below w1.heap.size w1 (w1.alloc (.cells #[] 34)) := ba1
  have hso : LiesO (w1.alloc (.cells #[] 34)) (some ⟨w1.heap.size, 0, none⟩) ([] : List Q) := .inl rfl
  clear own0
  generalize w1.alloc (.cells #[] 34) = w2 at *
  obtain ⟨so, hsoe⟩ : ∃ so, so = (some ⟨w1.heap.size, 0, none⟩ : Option Addr) := ⟨_, rfl⟩
  obtain ⟨sc, hsce⟩ : ∃ sc : Nat, sc = 0 := ⟨_, rfl⟩
  clear hsoe hsce so sc
  have b2 := b1.trans (b12.mono b1.size)
  have F2 := Lib.hid (F1.out.later b12)
  have S2 := Lib.hid hso
  have b2s := b2.size
  clear b12 hso F1 f0 f1 f2 f3 ff fl
  refine (c1 _ _ _ (H.out.later b2) S2.out).mono ?_
  rintro e w3 ⟨rfl, hw3⟩
  have b3 := b2.trans (hw3.mono b2.size)
  have S3 := Lib.hid (S2.out.later hw3)
  have F3 := Lib.hid (F2.out.later hw3)
  clear hw3 c1 F2 S2
  obtain ⟨f0, f1, f2, f3, ff, fl⟩ := F3.out
  go_wp2_with (fail)
  refine (c2 _ (H.out.later b3) (K.out.later b3)).mono ?_
  rintro e w4 ⟨rfl, hw4⟩
  have b4 := b3.trans (hw4.mono b3.size)
  have S4 := Lib.hid (S3.out.later hw4)
  have F4 := Lib.hid (F3.out.later hw4)
  have H4 := Lib.hid (H.out.later b4)
  have K4 := Lib.hid (K.out.later b4)
  clear hw4 c2 F3 S3 f0 f1 f2 f3 ff fl
  obtain ⟨f0, f1, f2, f3, ff, fl⟩ := F4.out
  go_wp2_with (fail)
  refine Tail.region_below (by kernel_rfl) (by kernel_rfl) ?_
  have kc := @Tail.cell_re
  repeat (go_big_quiet_step (first | (with_reducible exact Calls.regrown_of (c3 _ (liesO_re H4.out _ _) (liesO_re K4.out _ _))) | (with_reducible exact Calls.regrown_of (c4 _ (liesO_re H4.out _ _) (liesO_re K4.out _ _))) | (with_reducible exact Calls.regrown_of (sb _))))
  refine wpQuiet_nil ?_
  intro w5 hw5
  have S5 := Lib.hid (S4.out.later hw5)
  have b5 := b4.trans (hw5.mono b4.size)
  have K5 := Lib.hid (K.out.later b5)
  clear hw5 f0 f1 f2 f3 ff fl F4 S4 H4 K4 sb
  go_wp2
  refine wp_loop_rounds 1 ?_
  rw [rounds_succ]
  go_wp2_with (first | ((with_reducible refine (su _ _ _ _ _ S5.out K5.out).mono ?_); rintro e w6 ⟨rfl, hw6⟩) | ((with_reducible refine (kn _).mono ?_); rintro e w7 ⟨rfl, hw7⟩))
  go_ret
  exact ⟨rfl, by repeat (first | (with_reducible exact Below.refl _ _) | (with_reducible refine Below.setCell ?_ ?_ _) | (with_reducible refine Below.drew ?_) | (with_reducible refine Below.alloc ?_ ?_ _) | (with_reducible refine Below.trans ?_ (Below.mono hw7 ?_)) | (with_reducible refine Below.trans ?_ (Below.mono hw6 ?_)) | (with_reducible refine Below.trans ?_ (Below.mono b5 ?_)) | (with_reducible exact hw7.size) | (with_reducible exact hw6.size) | (with_reducible exact b5.size) | omega | (simp <;> omega) | (simp <;> (have s := hw7.size; omega)) | (simp <;> (have s := hw6.size; omega)) | (simp <;> (have s := b5.size; omega)) | (have s0 := hw7.size; (try simp at s0); have s1 := hw6.size; (try simp at s1); have s2 := b5.size; (try simp at s2); (try simp); omega))⟩
set_option maxHeartbeats 12800000 in
theorem gVa_okS (a b c : Int) (ao : Option Addr) (ad : Addr) (cap gc : Nat) (L G B : List Q) (w : World) (h : L.length ≤ 200) (h2 : G.length ≤ 100) (hm : LiesO w ao L) (hg : LiesO w (some ad) G) (hB : B.length = G.length)
    (c1 : ∀ (W : World) (so : Option Addr) (sc : Nat), LiesO W ao L → LiesO W so G → Calls Try.prog 15 #[.agg #[.int .i64 a, .int .i64 b, .int .i64 c, .slice ao L.length cap], .slice so G.length sc] W fun e w' => (∃ g k : Nat, e = .returned (.tuple #[.slice (some ⟨g, 0, none⟩) G.length k, .int .i64 0]) ∧ LBox w' g B ∧ W.heap.size ≤ g) ∧ Below W.heap.size W w')
    (c2 : ∀ (W : World), LiesO W ao L → LiesO W (some ad) G → Calls Try.prog 16 #[.agg #[.int .i64 a, .int .i64 b, .int .i64 c, .slice ao L.length cap], .slice (some ad) G.length gc] W fun e w' => (∃ g k : Nat, e = .returned (.tuple #[.slice (some ⟨g, 0, none⟩) G.length k, .int .i64 0]) ∧ LBox w' g B) ∧ Below W.heap.size W w')
    (c3 : ∀ (W : World), LiesO W ao L → LiesO W (some ad) G → Calls Try.prog 17 #[.agg #[.int .i64 a, .int .i64 b, .int .i64 c, .slice ao L.length cap], .slice (some ad) G.length gc] W fun e w' => e = .returned (.int .i64 0) ∧ Below W.heap.size W w')
    (c4 : ∀ (W : World), LiesO W ao L → LiesO W (some ad) G → Calls Try.prog 18 #[.agg #[.int .i64 a, .int .i64 b, .int .i64 c, .slice ao L.length cap], .slice (some ad) G.length gc] W fun e w' => e = .returned (.int .i64 0) ∧ Below W.heap.size W w') : Calls Try.prog 3 #[.agg #[.int .i64 a, .int .i64 b, .int .i64 c, .slice ao L.length cap], .slice (some ad) G.length gc] w fun e w' => e = .returned (.bool true) ∧ Below w.heap.size w w' := by
  have kn := sane4_any
  have c0 := fun W : World => long4_any a b c ao cap L false W (.inr ⟨h, rfl⟩)
  have i1 : ¬ (G.length : Int) > 100 := by omega
  obtain ⟨i0, hi, hz0, hz1, hz2⟩ := info_parts infoU
  have su := fun (W : World) (o o' : Option Addr) (k k' : Nat) (h1 : LiesO W o G) (h2 : LiesO W o' G) => sameU4_any o o' k k' G W h1 h2 (by omega)
  have sb : ∀ (W : World) (o o' : Option Addr) (k k' : Nat), LiesO W o B → LiesO W o' B → Calls Try.prog 19 #[.slice o G.length k, .slice o' G.length k'] W fun e w' => e = .returned (.bool true) ∧ Below W.heap.size W w' := fun W o o' k k' h1 h2 => by
    have := sameU4_any o o' k k' B W h1 h2 (by omega)
    rw [hB] at this
    exact this
  have H := Lib.hid hm
  have K := Lib.hid hg
  have hg6 : G.length ≤ 100 := by omega
  clear hm hg h h2
  go_enter Try.func3, Try.ntmps3
  have F0 := Lib.hid (FW.n1 (w := w) (x := a) (y := b) (z := c) (v := .slice ao L.length cap) (T := 25))
  go_wp2_with (fail)
  refine (c0 _).mono ?_
  rintro e w1 ⟨rfl, hw1⟩
  have b1 := bel1 hw1
  have F1 := Lib.hid (F0.out.later hw1)
  clear c0 hw1 F0
  have own0 := Lib.hid (World.ownsRow_lit (base := w1.heap.size) (e := 34) (size := 5) w1 #[] 0 (Nat.le_refl _) (by unfold maxLen; omega) (by simp))
  have hnews := Lib.hid (news_some (K.out.later (b1.trans ((ba1 (o := .cells #[] 34)).mono b1.size))))
  go_wp2_with (at_builtin; refine wpList_append_own _ rfl (.tmp 19) (.tmp 20) 23 rfl w1.heap.size 34 i0 _ 5 40 Try.underlying23 hi hz0 hz1 hz2 rfl (by decide) (.slice (some ⟨w1.heap.size, 0, none⟩) 0 0) 0 [] rfl own0.out ad G.length gc (G.flatMap uc) rfl (flat_len uc 5 uc_len G) hnews.out (lies_ones G) (by unfold maxLen; omega) (by omega) (by simp) ?_; intro v2 w2 hown2 hgrow2 _; have hown2' : w2.ownsRow w1.heap.size 34 5 v2 G.length (G.flatMap uc) := (by simpa using hown2); obtain ⟨so, sc, rfl, hso⟩ := owned_liesOG rfl hown2'; have b12 : Below w1.heap.size w1 w2 := ((Below.refl _ w1).alloc (Nat.le_refl _) (.cells #[] 34)).grown hgrow2 (by simp) (fun j hj => owned_from own0.out j hj); clear hown2 hown2' hgrow2 hnews own0; obtain ⟨f0, f1, f2, f3, ff, fl⟩ := F1.out.later b12)
  have b2 := b1.trans (b12.mono b1.size)
  have F2 := Lib.hid (F1.out.later b12)
  have S2 := Lib.hid hso
  have b2s := b2.size
  clear b12 hso F1 f0 f1 f2 f3 ff fl
  refine (c1 _ _ _ (H.out.later b2) S2.out).mono ?_
  rintro e w3 ⟨⟨g, k, rfl, hb3, hge⟩, hw3⟩
  have b23 := hw3
  have b3 := b2.trans (hw3.mono b2.size)
  have A3 := Lib.hid hb3
  have F3 := Lib.hid (F2.out.later hw3)
  clear hw3 hb3 c1 F2
  obtain ⟨f0, f1, f2, f3, ff, fl⟩ := F3.out
  go_wp2_with (fail)
  refine (c2 _ (H.out.later b3) (K.out.later b3)).mono ?_
  rintro e w4 ⟨⟨g4, k4, rfl, hb4⟩, hw4⟩
  have b4 := b3.trans (hw4.mono b3.size)
  have b24 := b23.trans (hw4.mono b23.size)
  have A4 := Lib.hid (A3.out.later hw4)
  have R4 := Lib.hid hb4
  have F4 := Lib.hid (F3.out.later hw4)
  have H4 := Lib.hid (H.out.later b4)
  have K4 := Lib.hid (K.out.later b4)
  have LA : Hid (LiesO w4 (some ⟨g, 0, none⟩) B) := Lib.hid (.inr ⟨g, 0, rfl, A4.out.h⟩)
  have LR : Hid (LiesO w4 (some ⟨g4, 0, none⟩) B) := Lib.hid (.inr ⟨g4, 0, rfl, R4.out.h⟩)
  clear hw4 hb4 b23 c2 F3 A3 f0 f1 f2 f3 ff fl
  obtain ⟨f0, f1, f2, f3, ff, fl⟩ := F4.out
  go_wp2_with (fail)
  refine Tail.region_below (by kernel_rfl) (by kernel_rfl) ?_
  have kc := @Tail.cell_re
  repeat (go_big_quiet_step (first | (with_reducible exact Calls.regrown_of (c3 _ (liesO_re H4.out _ _) (liesO_re K4.out _ _))) | (with_reducible exact Calls.regrown_of (c4 _ (liesO_re H4.out _ _) (liesO_re K4.out _ _))) | (with_reducible exact Calls.regrown_of (sb _ _ _ _ _ (liesO_re LA.out _ _) (liesO_re LR.out _ _)))))
  refine wpQuiet_nil ?_
  intro w5 hw5
  have b25 := Lib.hid (b24.trans (hw5.mono b24.size))
  have A5 := Lib.hid (A4.out.later hw5)
  have HBl := Lib.hid hB
  clear hw5 f0 f1 f2 f3 ff fl F4 A4 R4 H4 K4 LA LR sb b24 b4 b3 hB
  go_wp2
  go_loopw [10] (fun q wr => ∃ (k : Nat) (M : List Q), k ≤ G.length ∧ q = .int .i64 k ∧ Hid (LBox wr g M) ∧ Hid (M.length = G.length) ∧ Hid (Below w2.heap.size w2 wr)) (fun q _ => G.length - (intOf q).toNat)
  case atStart => exact ⟨0, B, by omega, rfl, A5, HBl, b25⟩
  case round =>
    obtain ⟨k, M, hk, rfl, HA, HM, HW⟩ := hrel
    clear A5 b25 HBl
    by_cases hlt : k < G.length
    · have ik : (k : Int) < (G.length : Int) := by omega
      have hkM : k < M.length := by rw [HM.out]; exact hlt
      obtain ⟨l0, l1, l2, l3, l4⟩ := HA.out.h k _ (List.getElem?_eq_getElem hkM)
      simp only [Nat.zero_add] at l0 l1 l2 l3 l4
      have lf := HA.out.free
      have LX := Lib.hid (HA.out.put k hkM zero)
      have LM : Hid ((M.set k zero).length = G.length) := Lib.hid (by rw [List.length_set]; exact HM.out)
      have BX := Lib.hid (HW.out.grown (grown_setCells g (uc zero) (k * 5) wr) HW.out.size (fun j e => by cases e; exact hge))
      generalize M.set k zero = M' at *
      change Hid (LBox (((((wr.setCell ⟨g, k * 5, none⟩ (.int .i64 0)).setCell ⟨g, k * 5 + 1, none⟩ (.int .i64 0)).setCell ⟨g, k * 5 + 2, none⟩ (.int .i64 0)).setCell ⟨g, k * 5 + 3, none⟩ (.int .i64 0)).setCell ⟨g, k * 5 + 4, none⟩ (.int .i64 0)) g M') at LX
      change Hid (Below w2.heap.size w2 (((((wr.setCell ⟨g, k * 5, none⟩ (.int .i64 0)).setCell ⟨g, k * 5 + 1, none⟩ (.int .i64 0)).setCell ⟨g, k * 5 + 2, none⟩ (.int .i64 0)).setCell ⟨g, k * 5 + 3, none⟩ (.int .i64 0)).setCell ⟨g, k * 5 + 4, none⟩ (.int .i64 0))) at BX
      clear HA HW HM
      go_wp2
      exact ⟨⟨k + 1, M', by omega, by go_num, LX, LM, BX⟩, by simp [intOf]; omega⟩
    · obtain rfl : k = G.length := by omega
      have S5 := Lib.hid (S2.out.later HW.out)
      have b5 := b2.trans (HW.out.mono b2.size)
      have K5 := Lib.hid (K.out.later b5)
      clear HA HM S2
      go_wp2_with (first | ((with_reducible refine (su _ _ _ _ _ S5.out K5.out).mono ?_); rintro e w6 ⟨rfl, hw6⟩) | ((with_reducible refine (kn _).mono ?_); rintro e w7 ⟨rfl, hw7⟩))
      go_ret
      exact ⟨rfl, by repeat (first | (with_reducible exact Below.refl _ _) | (with_reducible refine Below.setCell ?_ ?_ _) | (with_reducible refine Below.drew ?_) | (with_reducible refine Below.alloc ?_ ?_ _) | (with_reducible refine Below.trans ?_ (Below.mono hw7 ?_)) | (with_reducible refine Below.trans ?_ (Below.mono hw6 ?_)) | (with_reducible refine Below.trans ?_ (Below.mono b5 ?_)) | (with_reducible exact hw7.size) | (with_reducible exact hw6.size) | (with_reducible exact b5.size) | omega | (simp <;> omega) | (simp <;> (have s := hw7.size; omega)) | (simp <;> (have s := hw6.size; omega)) | (simp <;> (have s := b5.size; omega)) | (have s0 := hw7.size; (try simp at s0); have s1 := hw6.size; (try simp at s1); have s2 := b5.size; (try simp at s2); (try simp); omega))⟩
theorem gaugeValidates_walk (a b c : Int) (ao : Option Addr) (L : List Q) (cap : Nat) (go : Option Addr) (G : List Q) (gc : Nat) (w : World) (_ : L.length ≤ maxLen) (hm : LiesO w ao L) (_ : G.length ≤ maxLen) (hg : LiesO w go G) (hnil : go = none → gc = 0) : Calls Try.prog 3 #[.agg #[.int .i64 a, .int .i64 b, .int .i64 c, .slice ao L.length cap], .slice go G.length gc] w fun e w' => e = .returned (.bool true) ∧ Below w.heap.size w w' := by
  by_cases h : 200 < L.length
  · exact gVa_long a b c ao go cap gc L G w h
  by_cases h2 : 100 < G.length
  · exact gVa_many a b c ao go cap gc L G w (by omega) h2
  obtain ⟨r, hr⟩ := gaR_ex a b c L G
  have hl6 : L.length ≤ 1000000 := by omega
  have hg6 : G.length ≤ 1000000 := by omega
  by_cases h0 : r = 0
  · subst h0
    have hp := fld_pos (gaR_ok hr).1
    have hgp : 0 < G.length := by have := (gaR_Gg hr).n; omega
    obtain ⟨b2, o2, rfl, m2⟩ := liesO_some hg hgp
    refine gVa_okS a b c ao ⟨b2, o2, none⟩ cap gc L G (G.map bar) w (by omega) (by omega) hm hg (by simp) ?_ ?_ ?_ ?_
    · intro W so sc l1 l2
      obtain ⟨b3, o3, rfl, m3⟩ := liesO_some l2 hgp
      exact gaInv_ok a b c ao b3 o3 cap sc L G W l1 m3 hr hl6 (by omega) hgp
    · intro W l1 l2
      have m3 : Lies W b2 o2 G := by
        rcases l2 with h | ⟨x, y, e, h⟩
        · rw [h] at hgp; exact absurd hgp (by simp)
        · cases e; exact h
      exact (refGaInv_ok a b c ao b2 o2 cap gc L G W l1 m3 hr hl6 (by omega) hgp).mono fun e w' ⟨⟨g, k, he, hl, _⟩, hb⟩ => ⟨⟨g, k, he, hl⟩, hb⟩
    · exact fun W l1 l2 => gaV_any a b c 0 ao (some ⟨b2, o2, none⟩) cap gc L G W l1 l2 hr hl6 hg6
    · exact fun W l1 l2 => refGaV_any a b c 0 ao (some ⟨b2, o2, none⟩) cap gc L G W l1 l2 hr hl6 hg6
  · cases go with
    | some ad => exact gVa_errS a b c r ao ad cap gc L G w (by omega) (by omega) hm hg (fun W so sc l1 l2 => gaInv_bad a b c r ao so cap sc L G W l1 l2 hr h0 hl6 hg6) (fun W l1 l2 => refGaInv_bad a b c r ao (some ad) cap gc L G W l1 l2 hr h0 hl6 hg6) (fun W l1 l2 => gaV_any a b c r ao (some ad) cap gc L G W l1 l2 hr hl6 hg6) (fun W l1 l2 => refGaV_any a b c r ao (some ad) cap gc L G W l1 l2 hr hl6 hg6)
    | none => exact gVa_errN a b c r ao cap gc L G w (by omega) (by omega) hm hg (hnil rfl) (fun W so sc l1 l2 => gaInv_bad a b c r ao so cap sc L G W l1 l2 hr h0 hl6 hg6) (fun W l1 l2 => refGaInv_bad a b c r ao none cap gc L G W l1 l2 hr h0 hl6 hg6) (fun W l1 l2 => gaV_any a b c r ao none cap gc L G W l1 l2 hr hl6 hg6) (fun W l1 l2 => refGaV_any a b c r ao none cap gc L G W l1 l2 hr hl6 hg6)

/-! ### The statement of the law GaugeValidates, out of its walk -/
set_option maxRecDepth 100000 in
theorem gaugeValidates_lifted (os : Os) (started : os.Started) (H : Type) (enc : TypeId × Value → H) :
    ReturnsInHanded {} Try.checked os 3 .any (Rows.gaugeValidatesSpec.pre6 enc Try.prog Try.f3 Rows.gaugeValidatesRow.domain false) (Rows.gaugeValidatesSpec.post enc Try.prog Try.f3 false true false false) := by
  refine returnsInHanded_of_change (C := Try.checked) own started (by kernel_rfl) Try.func3
    (ChangeSpec.witness6 (enc := enc) (C := Try.checked) false ⟨#[], #[.agg #[.int .i64 0, .int .i64 0, .int .i64 0, .slice none 0 0], .slice none 0 0], []⟩ 8 (by kernel_rfl) (by kernel_rfl) (by kernel_rfl) (by kernel_rfl)) ?_
  intro W base args ds gs before hval0 hW hcnd _
  have hval : ∀ (j : Nat) t v, Try.f3.params[j]? = some t → args[j]? = some v → Value.okWide Try.prog W .any base t v := hval0
  have hW' := hW
  obtain ⟨p, q, hA0, hV, rfl, hfz, hnd⟩ := hW
  have hA : DataW.TrodAll enc Try.prog W 0 (fun _ => true) true Try.f3.params.toList args.toList ds p := hA0
  rw [Try.params3] at hA hval
  obtain ⟨v0, vs0, d0, ds0, p0, q0, hargs, rfl, rfl, h0, r0⟩ := trodAll_cons hA
  obtain ⟨v1, vs1, d1, ds1, p1, q1, rfl, rfl, rfl, h1, r1⟩ := trodAll_cons r0
  obtain ⟨rfl, rfl, rfl⟩ := trodAll_nil r1
  obtain rfl : args = #[v0, v1] := by cases args; simp_all
  obtain ⟨rfl, rfl⟩ := trodVars_none hV
  have k0 := h0
  have lt0 : ∀ x ∈ p0, x.block < W.heap.size := by obtain ⟨m, hm⟩ := k0; exact DataW.trod_lt m _ _ _ hm
  obtain ⟨x0, y0, z0, ao0, L0, cap0, rfl, hl0, hm0⟩ := open_field (hval 0 25 v0 rfl rfl) h0
  have k1 := h1
  have lt1 : ∀ x ∈ p1, x.block < W.heap.size := by obtain ⟨m, hm⟩ := k1; exact DataW.trod_lt m _ _ _ hm
  obtain ⟨ao1, L1, cap1, rfl, hl1, hm1, hnil1⟩ := open_unitsN (hval 1 23 v1 rfl rfl) h1
  clear hA0 hval0
  refine (gaugeValidates_walk x0 y0 z0 ao0 L0 cap0 ao1 L1 cap1 W hl0 hm0 hl1 hm1 hnil1).mono fun e W' ⟨he, bel⟩ => ?_
  subst he
  exact ⟨_, rfl, _, _, _, [], _, [], hW', trodAll_mk1 (shut_bool Try.underlying4 _), (trodAll_cons_mk (Below.trod laidOut (by kernel_rfl) (of_decide_eq_true (by kernel_rfl)) k0 bel lt0) (trodAll_cons_mk (Below.trod laidOut (by kernel_rfl) (of_decide_eq_true (by kernel_rfl)) k1 bel lt1) trodAll_mk0)), rfl, bel.frame _, fun h => by cases h⟩

theorem gaugeValidates_jf9 : (Rows.gaugeValidatesRow.inPlace == Try.prog.inPlace 3) = true := by kernel_rfl
theorem gaugeValidates_jf10 : (Rows.gaugeValidatesRow.unfollowed == Try.prog.unfollowed 3) = true := by kernel_rfl
theorem gaugeValidates_jf11 : (Rows.gaugeValidatesRow.recurses == Try.prog.recurses 3) = true := by kernel_rfl
theorem gaugeValidates_jf12 : (Rows.gaugeValidatesRow.named == Try.prog.varsNamed 3) = true := by kernel_rfl
theorem gaugeValidates_facts : joinedFacts Try.prog 3 Try.f3 Rows.gaugeValidatesSpec Rows.gaugeValidatesRow = true := by
  unfold joinedFacts
  exact (band (band (band (band (band (band (band (band (band (band (band (band (band (band (band (band (band (band (band (band (band (band (band (band (band (band (band (band (band (band (band (by kernel_rfl) jf1) jf2) (by kernel_rfl)) (by kernel_rfl)) (by kernel_rfl)) jf6) (by kernel_rfl)) jf8) gaugeValidates_jf9) gaugeValidates_jf10) gaugeValidates_jf11) gaugeValidates_jf12) (by kernel_rfl)) (by kernel_rfl)) (by kernel_rfl)) (by kernel_rfl)) (by kernel_rfl)) (by kernel_rfl)) (by kernel_rfl)) (by kernel_rfl)) (by kernel_rfl)) (by kernel_rfl)) (by kernel_rfl)) jf24) jf25) jf26) jf27) (by kernel_rfl)) (by kernel_rfl)) (by kernel_rfl)) (by kernel_rfl))

theorem gaugeValidates_over : Rows.gaugeValidatesRow.holds Try.pinned (OpenSpec.ofChange Rows.gaugeValidatesSpec) :=
  OpenClaim.holds_of_wide 3 Try.f3 rfl rfl rfl rfl rfl rfl rfl ⟨rfl, rfl, rfl, rfl, rfl⟩ rfl rfl rfl rfl rfl (by kernel_rfl) Try.func3 gaugeValidates_facts
    (of_decide_eq_true (by kernel_rfl)) (by unfold Func.isWrapper; first | (rw [if_pos (by decide +kernel)]; kernel_rfl) | (rw [if_neg (by decide +kernel)]; exact ⟨rfl, rfl⟩))
    (fun os started H enc _ => gaugeValidates_lifted os started H enc)

theorem gaugeValidates_holds : Rows.GaugeValidatesSaid := gaugeValidates_over
#print axioms gaugeValidates_holds

end Go.Proofs.Ytegeamfacajeeaa
