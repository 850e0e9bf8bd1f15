/- TorusLinks: a link, and the field with another one, in new memory, are the document's, for all fields, places and units.
Conditions: none. -/
import Derived.Test.YtoafojojhdcmfaaPutC
import Derived.Test.YtoafojojhdcmfaaOpen4
import Derived.Test.YtoafojojhdcmfaaJFacts
namespace Go.Proofs.Ytoafojojhdcmfaa
set_option linter.unusedVariables false
set_option linter.unusedSimpArgs false
set_option maxRecDepth 1000000
open Go.ChangeShapes Go.WideShapes Go.ChangeAt Go.RowKit
open Um Tm

theorem same_own (a b c : Int) (g k : Nat) (fo : Option Addr) (cap : Nat) (L : List Q) (w : World) (h1 : Lies w g 0 L) (h2 : LiesO w fo L) (hlen : L.length ≤ 100) : Calls Try.prog 26 #[.agg #[.int .i64 a, .int .i64 b, .int .i64 c, .slice (some ⟨g, 0, none⟩) L.length k], .agg #[.int .i64 a, .int .i64 b, .int .i64 c, .slice fo L.length cap]] w fun e w' => e = .returned (.bool true) ∧ Below w.heap.size w w' := by
  by_cases hL : L = []
  · subst hL
    exact sameF_nil a b c (some ⟨g, 0, none⟩) fo k cap w
  · rcases h2 with h2 | ⟨bl, off, rfl, h2⟩
    · exact absurd h2 hL
    · exact sameF_some a b c g 0 k bl off cap L w h1 h2 (by omega)

set_option maxHeartbeats 800000 in
theorem torusLinks_long (a b c x y z s t d : Int) (u : Q) (fo : Option Addr) (n cap : Nat) (w : World) (hn : 100 < n) : Calls Try.prog 3 #[.agg #[.int .i64 a, .int .i64 b, .int .i64 c, .slice fo n cap], .agg #[.int .i64 x, .int .i64 y, .int .i64 z, .int .i64 s, .int .i64 t, .int .i64 d], .agg #[.int .i64 u.a, .int .i64 u.b, .int .i64 u.c, .int .i64 u.d, .int .i64 u.n]] w fun e w' => e = .returned (.bool true) ∧ Below w.heap.size w w' := by
  have kn := known2_any
  have lg := fun W : World => long_any a b c fo cap n true W (.inr ⟨hn, rfl⟩)
  go_enter Try.func3, Try.ntmps3
  go_wp2_with (first | ((with_reducible refine (lg _).mono ?_); rintro e w1 ⟨rfl, hw1⟩; have hc1 := Tail.cells hw1; have s1 := hw1.size; (try simp at s1); (try have z1_0 : w.heap.size < w1.heap.size := (by omega)); (try have z1_1 : w.heap.size + 1 < w1.heap.size := (by omega)); (try have z1_2 : w.heap.size + 2 < w1.heap.size := (by omega)); clear s1) | ((with_reducible refine (kn _).mono ?_); rintro e w2 ⟨rfl, hw2⟩; have hc2 := Tail.cells hw2; have s2 := hw2.size; (try simp at s2); (try have z2_0 : w.heap.size < w2.heap.size := (by omega)); (try have z2_1 : w.heap.size + 1 < w2.heap.size := (by omega)); (try have z2_2 : w.heap.size + 2 < w2.heap.size := (by omega)); (try have z2_3 : w1.heap.size < w2.heap.size := (by omega)); clear s2))
  go_ret
  exact ⟨rfl, by repeat (first | (with_reducible exact Below.refl _ _) | (with_reducible refine Below.setCell ?_ ?_ _) | (with_reducible refine Below.drew ?_) | (with_reducible refine Below.alloc ?_ ?_ _) | (with_reducible refine Below.trans ?_ (Below.mono hw2 ?_)) | (with_reducible refine Below.trans ?_ (Below.mono hw1 ?_)) | (with_reducible exact hw2.size) | (with_reducible exact hw1.size) | omega | (simp <;> omega) | (simp <;> (have s := hw2.size; omega)) | (simp <;> (have s := hw1.size; omega)) | (have s0 := hw2.size; (try simp at s0); have s1 := hw1.size; (try simp at s1); (try simp); omega))⟩

set_option maxHeartbeats 6400000 in
theorem torusLinks_err (a b c x y z s t d r1 r2 : Int) (u v : Q) (fo : Option Addr) (cap : Nat) (L : List Q) (w : World) (hn : L.length ≤ 100) (hL : LiesO w fo L) (hnil : fo = none → cap = 0)
    (cG : ∀ (g k : Nat) (W : World), Lies W g 0 L → Calls Try.prog 22 #[.agg #[.int .i64 a, .int .i64 b, .int .i64 c, .slice (some ⟨g, 0, none⟩) L.length k], .int .i64 s, .int .i64 d] W fun e w' => e = .returned (.tuple #[.agg #[.int .i64 v.a, .int .i64 v.b, .int .i64 v.c, .int .i64 v.d, .int .i64 v.n], .int .i64 r1]) ∧ Below W.heap.size W w')
    (cH : ∀ W : World, LiesO W fo L → Calls Try.prog 23 #[.agg #[.int .i64 a, .int .i64 b, .int .i64 c, .slice fo L.length cap], .int .i64 s, .int .i64 d] W fun e w' => e = .returned (.tuple #[.agg #[.int .i64 v.a, .int .i64 v.b, .int .i64 v.c, .int .i64 v.d, .int .i64 v.n], .int .i64 r1]) ∧ Below W.heap.size W w')
    (cP : ∀ (g k : Nat) (W : World), Lies W g 0 L → Calls Try.prog 24 #[.agg #[.int .i64 a, .int .i64 b, .int .i64 c, .slice (some ⟨g, 0, none⟩) L.length k], .int .i64 s, .int .i64 d, .agg #[.int .i64 u.a, .int .i64 u.b, .int .i64 u.c, .int .i64 u.d, .int .i64 u.n]] W fun e w' => e = .returned (.tuple #[.agg #[.int .i64 0, .int .i64 0, .int .i64 0, .slice none 0 0], .int .i64 r2]) ∧ Below W.heap.size W w')
    (cR : ∀ W : World, LiesO W fo L → Calls Try.prog 25 #[.agg #[.int .i64 a, .int .i64 b, .int .i64 c, .slice fo L.length cap], .int .i64 s, .int .i64 d, .agg #[.int .i64 u.a, .int .i64 u.b, .int .i64 u.c, .int .i64 u.d, .int .i64 u.n]] W fun e w' => e = .returned (.tuple #[.agg #[.int .i64 0, .int .i64 0, .int .i64 0, .slice none 0 0], .int .i64 r2]) ∧ Below W.heap.size W w') :
    Calls Try.prog 3 #[.agg #[.int .i64 a, .int .i64 b, .int .i64 c, .slice fo L.length cap], .agg #[.int .i64 x, .int .i64 y, .int .i64 z, .int .i64 s, .int .i64 t, .int .i64 d], .agg #[.int .i64 u.a, .int .i64 u.b, .int .i64 u.c, .int .i64 u.d, .int .i64 u.n]] w fun e w' => e = .returned (.bool true) ∧ Below w.heap.size w w' := by
  have kn := known2_any
  have lg := fun W : World => long_any a b c fo cap L.length false W (.inl ⟨hn, rfl⟩)
  have cC := fun (W : World) (h : LiesO W fo L) => refCopy_any a b c fo cap L W h hnil hn
  have sN := fun W : World => sameF_nil 0 0 0 none none 0 0 W
  have sO := fun (g k : Nat) (W : World) (h1 : Lies W g 0 L) (h2 : LiesO W fo L) => same_own a b c g k fo cap L W h1 h2 hn
  have H := Lib.hid hL
  have q1 : ∀ W, Sem.run Try.prog (Op.equalIn 10000 29 (.agg #[.int .i64 v.a, .int .i64 v.b, .int .i64 v.c, .int .i64 v.d, .int .i64 v.n]) (.agg #[.int .i64 v.a, .int .i64 v.b, .int .i64 v.c, .int .i64 v.d, .int .i64 v.n])) W = .ok true W := fun W => by simpa using eqU v v W
  clear hL hnil hn
  go_enter Try.func3, Try.ntmps3
  go_wp2_with (first | ((with_reducible refine (lg _).mono ?_); rintro e w1 ⟨rfl, hw1⟩; have hc1 := Tail.cells hw1; have s1 := hw1.size; (try simp at s1); (try have z1_0 : w.heap.size < w1.heap.size := (by omega)); (try have z1_1 : w.heap.size + 1 < w1.heap.size := (by omega)); (try have z1_2 : w.heap.size + 2 < w1.heap.size := (by omega)); clear s1) | ((with_reducible refine (cC _ (H.out.later (by repeat (first | (with_reducible exact Below.refl _ _) | (with_reducible refine Below.setCell ?_ ?_ _) | (with_reducible refine Below.drew ?_) | (with_reducible refine Below.alloc ?_ ?_ _) | (with_reducible refine Below.trans ?_ (Below.mono hw1 ?_)) | (with_reducible exact hw1.size) | omega | (simp <;> omega) | (simp <;> (have s := hw1.size; omega)) | (have s0 := hw1.size; (try simp at s0); (try simp); omega))))).mono ?_); rintro e w2 ⟨gO, kO, rfl, hO, hw2⟩; have hc2 := Tail.cells hw2; have s2 := hw2.size; (try simp at s2); (try have z2_0 : w.heap.size < w2.heap.size := (by omega)); (try have z2_1 : w.heap.size + 1 < w2.heap.size := (by omega)); (try have z2_2 : w.heap.size + 2 < w2.heap.size := (by omega)); (try have z2_3 : w1.heap.size < w2.heap.size := (by omega)); clear s2; have HO := Lib.hid hO; clear hO cC) | ((with_reducible refine (cG _ _ _ (HO.out.later (by repeat (first | (with_reducible exact Below.refl _ _) | (with_reducible refine Below.setCell ?_ ?_ _) | (with_reducible refine Below.drew ?_) | (with_reducible refine Below.alloc ?_ ?_ _) | omega | (simp <;> omega))))).mono ?_); rintro e w3 ⟨rfl, hw3⟩; have hc3 := Tail.cells hw3; have s3 := hw3.size; (try simp at s3); (try have z3_0 : w.heap.size < w3.heap.size := (by omega)); (try have z3_1 : w.heap.size + 1 < w3.heap.size := (by omega)); (try have z3_2 : w.heap.size + 2 < w3.heap.size := (by omega)); (try have z3_3 : w1.heap.size < w3.heap.size := (by omega)); (try have z3_4 : w2.heap.size < w3.heap.size := (by omega)); clear s3) | ((with_reducible refine (cH _ (H.out.later (by repeat (first | (with_reducible exact Below.refl _ _) | (with_reducible refine Below.setCell ?_ ?_ _) | (with_reducible refine Below.drew ?_) | (with_reducible refine Below.alloc ?_ ?_ _) | (with_reducible refine Below.trans ?_ (Below.mono hw3 ?_)) | (with_reducible refine Below.trans ?_ (Below.mono hw2 ?_)) | (with_reducible refine Below.trans ?_ (Below.mono hw1 ?_)) | (with_reducible exact hw3.size) | (with_reducible exact hw2.size) | (with_reducible exact hw1.size) | omega | (simp <;> omega) | (simp <;> (have s := hw3.size; omega)) | (simp <;> (have s := hw2.size; omega)) | (simp <;> (have s := hw1.size; omega)) | (have s0 := hw3.size; (try simp at s0); have s1 := hw2.size; (try simp at s1); have s2 := hw1.size; (try simp at s2); (try simp); omega))))).mono ?_); rintro e w4 ⟨rfl, hw4⟩; have hc4 := Tail.cells hw4; have s4 := hw4.size; (try simp at s4); (try have z4_0 : w.heap.size < w4.heap.size := (by omega)); (try have z4_1 : w.heap.size + 1 < w4.heap.size := (by omega)); (try have z4_2 : w.heap.size + 2 < w4.heap.size := (by omega)); (try have z4_3 : w1.heap.size < w4.heap.size := (by omega)); (try have z4_4 : w2.heap.size < w4.heap.size := (by omega)); (try have z4_5 : w3.heap.size < w4.heap.size := (by omega)); clear s4) | ((with_reducible refine (cP _ _ _ (HO.out.later (by repeat (first | (with_reducible exact Below.refl _ _) | (with_reducible refine Below.setCell ?_ ?_ _) | (with_reducible refine Below.drew ?_) | (with_reducible refine Below.alloc ?_ ?_ _) | (with_reducible refine Below.trans ?_ (Below.mono hw4 ?_)) | (with_reducible refine Below.trans ?_ (Below.mono hw3 ?_)) | (with_reducible exact hw4.size) | (with_reducible exact hw3.size) | omega | (simp <;> omega) | (simp <;> (have s := hw4.size; omega)) | (simp <;> (have s := hw3.size; omega)) | (have s0 := hw4.size; (try simp at s0); have s1 := hw3.size; (try simp at s1); (try simp); omega))))).mono ?_); rintro e w5 ⟨rfl, hw5⟩; have hc5 := Tail.cells hw5; have s5 := hw5.size; (try simp at s5); (try have z5_0 : w.heap.size < w5.heap.size := (by omega)); (try have z5_1 : w.heap.size + 1 < w5.heap.size := (by omega)); (try have z5_2 : w.heap.size + 2 < w5.heap.size := (by omega)); (try have z5_3 : w1.heap.size < w5.heap.size := (by omega)); (try have z5_4 : w2.heap.size < w5.heap.size := (by omega)); (try have z5_5 : w3.heap.size < w5.heap.size := (by omega)); (try have z5_6 : w4.heap.size < w5.heap.size := (by omega)); clear s5) | ((with_reducible refine (cR _ (H.out.later (by repeat (first | (with_reducible exact Below.refl _ _) | (with_reducible refine Below.setCell ?_ ?_ _) | (with_reducible refine Below.drew ?_) | (with_reducible refine Below.alloc ?_ ?_ _) | (with_reducible refine Below.trans ?_ (Below.mono hw5 ?_)) | (with_reducible refine Below.trans ?_ (Below.mono hw4 ?_)) | (with_reducible refine Below.trans ?_ (Below.mono hw3 ?_)) | (with_reducible refine Below.trans ?_ (Below.mono hw2 ?_)) | (with_reducible refine Below.trans ?_ (Below.mono hw1 ?_)) | (with_reducible exact hw5.size) | (with_reducible exact hw4.size) | (with_reducible exact hw3.size) | (with_reducible exact hw2.size) | (with_reducible exact hw1.size) | omega | (simp <;> omega) | (simp <;> (have s := hw5.size; omega)) | (simp <;> (have s := hw4.size; omega)) | (simp <;> (have s := hw3.size; omega)) | (simp <;> (have s := hw2.size; omega)) | (simp <;> (have s := hw1.size; omega)) | (have s0 := hw5.size; (try simp at s0); have s1 := hw4.size; (try simp at s1); have s2 := hw3.size; (try simp at s2); have s3 := hw2.size; (try simp at s3); have s4 := hw1.size; (try simp at s4); (try simp); omega))))).mono ?_); rintro e w6 ⟨rfl, hw6⟩; have hc6 := Tail.cells hw6; have s6 := hw6.size; (try simp at s6); (try have z6_0 : w.heap.size < w6.heap.size := (by omega)); (try have z6_1 : w.heap.size + 1 < w6.heap.size := (by omega)); (try have z6_2 : w.heap.size + 2 < w6.heap.size := (by omega)); (try have z6_3 : w1.heap.size < w6.heap.size := (by omega)); (try have z6_4 : w2.heap.size < w6.heap.size := (by omega)); (try have z6_5 : w3.heap.size < w6.heap.size := (by omega)); (try have z6_6 : w4.heap.size < w6.heap.size := (by omega)); (try have z6_7 : w5.heap.size < w6.heap.size := (by omega)); clear s6) | ((with_reducible refine (sN _).mono ?_); rintro e w7 ⟨rfl, hw7⟩; have hc7 := Tail.cells hw7; have s7 := hw7.size; (try simp at s7); (try have z7_0 : w.heap.size < w7.heap.size := (by omega)); (try have z7_1 : w.heap.size + 1 < w7.heap.size := (by omega)); (try have z7_2 : w.heap.size + 2 < w7.heap.size := (by omega)); (try have z7_3 : w1.heap.size < w7.heap.size := (by omega)); (try have z7_4 : w2.heap.size < w7.heap.size := (by omega)); (try have z7_5 : w3.heap.size < w7.heap.size := (by omega)); (try have z7_6 : w4.heap.size < w7.heap.size := (by omega)); (try have z7_7 : w5.heap.size < w7.heap.size := (by omega)); (try have z7_8 : w6.heap.size < w7.heap.size := (by omega)); clear s7))
  refine wp_loop_rounds 1 ?_
  rw [rounds_succ]
  go_wp2_with (first | ((with_reducible refine (sO _ _ _ (HO.out.later (by repeat (first | (with_reducible exact Below.refl _ _) | (with_reducible refine Below.setCell ?_ ?_ _) | (with_reducible refine Below.drew ?_) | (with_reducible refine Below.alloc ?_ ?_ _) | (with_reducible refine Below.trans ?_ (Below.mono hw7 ?_)) | (with_reducible refine Below.trans ?_ (Below.mono hw6 ?_)) | (with_reducible refine Below.trans ?_ (Below.mono hw5 ?_)) | (with_reducible refine Below.trans ?_ (Below.mono hw4 ?_)) | (with_reducible refine Below.trans ?_ (Below.mono hw3 ?_)) | (with_reducible exact hw7.size) | (with_reducible exact hw6.size) | (with_reducible exact hw5.size) | (with_reducible exact hw4.size) | (with_reducible exact hw3.size) | omega | (simp <;> omega) | (simp <;> (have s := hw7.size; omega)) | (simp <;> (have s := hw6.size; omega)) | (simp <;> (have s := hw5.size; omega)) | (simp <;> (have s := hw4.size; omega)) | (simp <;> (have s := hw3.size; omega)) | (have s0 := hw7.size; (try simp at s0); have s1 := hw6.size; (try simp at s1); have s2 := hw5.size; (try simp at s2); have s3 := hw4.size; (try simp at s3); have s4 := hw3.size; (try simp at s4); (try simp); omega)))) (H.out.later (by repeat (first | (with_reducible exact Below.refl _ _) | (with_reducible refine Below.setCell ?_ ?_ _) | (with_reducible refine Below.drew ?_) | (with_reducible refine Below.alloc ?_ ?_ _) | (with_reducible refine Below.trans ?_ (Below.mono hw7 ?_)) | (with_reducible refine Below.trans ?_ (Below.mono hw6 ?_)) | (with_reducible refine Below.trans ?_ (Below.mono hw5 ?_)) | (with_reducible refine Below.trans ?_ (Below.mono hw4 ?_)) | (with_reducible refine Below.trans ?_ (Below.mono hw3 ?_)) | (with_reducible refine Below.trans ?_ (Below.mono hw2 ?_)) | (with_reducible refine Below.trans ?_ (Below.mono hw1 ?_)) | (with_reducible exact hw7.size) | (with_reducible exact hw6.size) | (with_reducible exact hw5.size) | (with_reducible exact hw4.size) | (with_reducible exact hw3.size) | (with_reducible exact hw2.size) | (with_reducible exact hw1.size) | omega | (simp <;> omega) | (simp <;> (have s := hw7.size; omega)) | (simp <;> (have s := hw6.size; omega)) | (simp <;> (have s := hw5.size; omega)) | (simp <;> (have s := hw4.size; omega)) | (simp <;> (have s := hw3.size; omega)) | (simp <;> (have s := hw2.size; omega)) | (simp <;> (have s := hw1.size; omega)) | (have s0 := hw7.size; (try simp at s0); have s1 := hw6.size; (try simp at s1); have s2 := hw5.size; (try simp at s2); have s3 := hw4.size; (try simp at s3); have s4 := hw3.size; (try simp at s4); have s5 := hw2.size; (try simp at s5); have s6 := hw1.size; (try simp at s6); (try simp); omega))))).mono ?_); rintro e w8 ⟨rfl, hw8⟩) | ((with_reducible refine (kn _).mono ?_); rintro e w9 ⟨rfl, hw9⟩))
  go_ret
  exact ⟨rfl, by repeat (first | (with_reducible exact Below.refl _ _) | (with_reducible refine Below.setCell ?_ ?_ _) | (with_reducible refine Below.drew ?_) | (with_reducible refine Below.alloc ?_ ?_ _) | (with_reducible refine Below.trans ?_ (Below.mono hw9 ?_)) | (with_reducible refine Below.trans ?_ (Below.mono hw8 ?_)) | (with_reducible refine Below.trans ?_ (Below.mono hw7 ?_)) | (with_reducible refine Below.trans ?_ (Below.mono hw6 ?_)) | (with_reducible refine Below.trans ?_ (Below.mono hw5 ?_)) | (with_reducible refine Below.trans ?_ (Below.mono hw4 ?_)) | (with_reducible refine Below.trans ?_ (Below.mono hw3 ?_)) | (with_reducible refine Below.trans ?_ (Below.mono hw2 ?_)) | (with_reducible refine Below.trans ?_ (Below.mono hw1 ?_)) | (with_reducible exact hw9.size) | (with_reducible exact hw8.size) | (with_reducible exact hw7.size) | (with_reducible exact hw6.size) | (with_reducible exact hw5.size) | (with_reducible exact hw4.size) | (with_reducible exact hw3.size) | (with_reducible exact hw2.size) | (with_reducible exact hw1.size) | omega | (simp <;> omega) | (simp <;> (have s := hw9.size; omega)) | (simp <;> (have s := hw8.size; omega)) | (simp <;> (have s := hw7.size; omega)) | (simp <;> (have s := hw6.size; omega)) | (simp <;> (have s := hw5.size; omega)) | (simp <;> (have s := hw4.size; omega)) | (simp <;> (have s := hw3.size; omega)) | (simp <;> (have s := hw2.size; omega)) | (simp <;> (have s := hw1.size; omega)) | (have s0 := hw9.size; (try simp at s0); have s1 := hw8.size; (try simp at s1); have s2 := hw7.size; (try simp at s2); have s3 := hw6.size; (try simp at s3); have s4 := hw5.size; (try simp at s4); have s5 := hw4.size; (try simp at s5); have s6 := hw3.size; (try simp at s6); have s7 := hw2.size; (try simp at s7); have s8 := hw1.size; (try simp at s8); (try simp); omega))⟩

theorem Lies.laterB {B : Nat} {w w1 : World} {b off : Nat} {L : List Q} (h : Lies w b off L) (hb : Below B w w1) (hlt : b < B) : Lies w1 b off L := fun i x hx => by
  have f := h i x hx
  exact ⟨(hb.cell (p := ⟨b, _, none⟩) hlt).trans f.1, (hb.cell (p := ⟨b, _, none⟩) hlt).trans f.2.1, (hb.cell (p := ⟨b, _, none⟩) hlt).trans f.2.2.1, (hb.cell (p := ⟨b, _, none⟩) hlt).trans f.2.2.2.1, (hb.cell (p := ⟨b, _, none⟩) hlt).trans f.2.2.2.2⟩
theorem FBox.laterB {B : Nat} {w w1 : World} {b : Nat} {x y z : Int} {v : Value} (h : FBox w b x y z v) (hb : Below B w w1) (hlt : b < B) : FBox w1 b x y z v :=
  ⟨(hb.cell (p := ⟨b, _, none⟩) hlt).trans h.c0, (hb.cell (p := ⟨b, _, none⟩) hlt).trans h.c1, (hb.cell (p := ⟨b, _, none⟩) hlt).trans h.c2, (hb.cell (p := ⟨b, _, none⟩) hlt).trans h.c3, Nat.lt_of_lt_of_le h.lt hb.size⟩
/-- a block of units in which one number is overwritten is a block of units -/
theorem LBox.minus {w : World} {g : Nat} {M : List Q} (k : LBox w g M) (i : Nat) (x : Q) (hx : M[i]? = some x) (v : Int) : LBox (w.setCell ⟨g, i * 5 + 4, none⟩ (.int .i64 v)) g (M.set i ⟨x.a, x.b, x.c, x.d, v⟩) := by
  have hi := (List.getElem?_eq_some_iff.1 hx).1
  refine ⟨fun j y hy => ?_, fun j => by rw [World.frozen?_setCell]; exact k.free j, by simp [World.setCell]; exact k.lt⟩
  rw [List.getElem?_set] at hy
  by_cases he : i = j
  · subst he
    rw [if_pos rfl, if_pos hi] at hy
    simp only [Option.some.injEq] at hy
    subst hy
    obtain ⟨h0, h1, h2, h3, h4⟩ := k.h i x hx
    rw [Nat.zero_add] at h0 h1 h2 h3 h4 ⊢
    exact ⟨(World.cell?_setCell_other _ _ _ _ (by simp)).trans h0, (World.cell?_setCell_other _ _ _ _ (by simp)).trans h1, (World.cell?_setCell_other _ _ _ _ (by simp)).trans h2, (World.cell?_setCell_other _ _ _ _ (by simp)).trans h3, World.cell?_setCell_same _ _ _ h4⟩
  · rw [if_neg he] at hy
    obtain ⟨h0, h1, h2, h3, h4⟩ := k.h j y hy
    rw [Nat.zero_add] at h0 h1 h2 h3 h4 ⊢
    exact ⟨(World.cell?_setCell_other _ _ _ _ (by simp <;> omega)).trans h0, (World.cell?_setCell_other _ _ _ _ (by simp <;> omega)).trans h1, (World.cell?_setCell_other _ _ _ _ (by simp <;> omega)).trans h2, (World.cell?_setCell_other _ _ _ _ (by simp <;> omega)).trans h3, (World.cell?_setCell_other _ _ _ _ (by simp <;> omega)).trans h4⟩

set_option maxHeartbeats 6400000 in
theorem torusLinks_ok (a b c x y z s t d : Int) (u : Q) (bl off cap : Nat) (L : List Q) (w : World) (hn : L.length ≤ 100) (hL : Lies w bl off L) (hF : Fl a b c L) (s0 : 0 ≤ s) (s1 : s < a * b * c) (d0 : 0 ≤ d) (d1 : d ≤ 2) (hu : LinkR u 0) :
    Calls Try.prog 3 #[.agg #[.int .i64 a, .int .i64 b, .int .i64 c, .slice (some ⟨bl, off, none⟩) L.length cap], .agg #[.int .i64 x, .int .i64 y, .int .i64 z, .int .i64 s, .int .i64 t, .int .i64 d], .agg #[.int .i64 u.a, .int .i64 u.b, .int .i64 u.c, .int .i64 u.d, .int .i64 u.n]] w fun e w' => e = .returned (.bool true) ∧ Below w.heap.size w w' := by
  have kn := known2_any
  have lg := fun W : World => long_any a b c (some ⟨bl, off, none⟩) cap L.length false W (.inl ⟨hn, rfl⟩)
  have hpos : 0 < L.length := by
    obtain ⟨-, -, p3, -⟩ := mul_rng hF.z.a1 hF.z.a4 hF.z.b1 hF.z.b4 hF.z.c1 hF.z.c4
    have := hF.n
    omega
  have hr : lnR a b c L s d 0 := .inr (.inr (.inr ⟨Fl_fldR hF, s0, s1, d0, d1, rfl⟩))
  have cC := fun (W : World) (h : Lies W bl off L) => refCopy_some a b c bl off cap L W h hpos hn
  have cG := fun (g k : Nat) (W : World) (h : Lies W g 0 L) => get_ok a b c s d g 0 k L W h hr hF s0 s1 d0 d1
  have cH := fun (W : World) (h : Lies W bl off L) => refGet_ok a b c s d bl off cap L W h hr hF s0 s1 d0 d1
  have cP := fun (g k : Nat) (W : World) (h : Lies W g 0 L) => put_ok a b c s d u g 0 k L W h hF s0 s1 d0 d1 hu
  have cR := fun (W : World) (h : Lies W bl off L) => refPut_ok a b c s d u bl off cap L W h hF s0 s1 d0 d1 hu
  have hML : (L.set (3 * s + d).toNat u).length = L.length := List.length_set
  have sC : ∀ (g1 k1 g2 k2 : Nat) (W : World), Lies W g1 0 (L.set (3 * s + d).toNat u) → Lies W g2 0 (L.set (3 * s + d).toNat u) → Calls Try.prog 26 #[.agg #[.int .i64 a, .int .i64 b, .int .i64 c, .slice (some ⟨g1, 0, none⟩) L.length k1], .agg #[.int .i64 a, .int .i64 b, .int .i64 c, .slice (some ⟨g2, 0, none⟩) L.length k2]] W fun e w' => e = .returned (.bool true) ∧ Below W.heap.size W w' := fun g1 k1 g2 k2 W h1 h2 => by
    have := sameF_some a b c g1 0 k1 g2 0 k2 (L.set (3 * s + d).toNat u) W h1 h2 (by rw [hML]; omega)
    rwa [hML] at this
  have sO := fun (g k : Nat) (W : World) (h1 : Lies W g 0 L) (h2 : Lies W bl off L) => sameF_some a b c g 0 k bl off cap L W h1 h2 (by omega)
  have H := Lib.hid hL
  have hx0 : L[0]? = some L[0] := List.getElem?_eq_getElem hpos
  have hblw : bl < w.heap.size := World.block_lt_of_cell? w _ (hL 0 _ hx0).1
  have HX0 := Lib.hid hx0
  have HML := Lib.hid hML
  clear hL hF s1 hr hu hx0 hML d0 d1 s0
  generalize lk L (3 * s + d) = v at *
  generalize L.set (3 * s + d).toNat u = M at *
  have q1 : ∀ W, Sem.run Try.prog (Op.equalIn 10000 29 (.agg #[.int .i64 v.a, .int .i64 v.b, .int .i64 v.c, .int .i64 v.d, .int .i64 v.n]) (.agg #[.int .i64 v.a, .int .i64 v.b, .int .i64 v.c, .int .i64 v.d, .int .i64 v.n])) W = .ok true W := fun W => by simpa using eqU v v W
  go_enter Try.func3, Try.ntmps3
  go_wp2_with (first | ((with_reducible refine (lg _).mono ?_); rintro e w1 ⟨rfl, hw1⟩; have hc1 := Tail.cells hw1; have s1 := hw1.size; (try simp at s1); (try have z1_0 : w.heap.size < w1.heap.size := (by omega)); (try have z1_1 : w.heap.size + 1 < w1.heap.size := (by omega)); (try have z1_2 : w.heap.size + 2 < w1.heap.size := (by omega)); clear s1) | ((with_reducible refine (cC _ (H.out.later (by repeat (first | (with_reducible exact Below.refl _ _) | (with_reducible refine Below.setCell ?_ ?_ _) | (with_reducible refine Below.drew ?_) | (with_reducible refine Below.alloc ?_ ?_ _) | (with_reducible refine Below.trans ?_ (Below.mono hw1 ?_)) | (with_reducible exact hw1.size) | omega | (simp <;> omega) | (simp <;> (have s := hw1.size; omega)) | (have s0 := hw1.size; (try simp at s0); (try simp); omega))))).mono ?_); rintro e w2 ⟨gO, kO, rfl, hO, hgO, hw2⟩; have hc2 := Tail.cells hw2; have s2 := hw2.size; (try simp at s2); (try have z2_0 : w.heap.size < w2.heap.size := (by omega)); (try have z2_1 : w.heap.size + 1 < w2.heap.size := (by omega)); (try have z2_2 : w.heap.size + 2 < w2.heap.size := (by omega)); (try have z2_3 : w1.heap.size < w2.heap.size := (by omega)); clear s2; have HO := Lib.hid hO.h; have hOl := hO.lt; clear hO cC) | ((with_reducible refine (cG _ _ _ (HO.out.later (by repeat (first | (with_reducible exact Below.refl _ _) | (with_reducible refine Below.setCell ?_ ?_ _) | (with_reducible refine Below.drew ?_) | (with_reducible refine Below.alloc ?_ ?_ _) | omega | (simp <;> omega))))).mono ?_); rintro e w3 ⟨rfl, hw3⟩; have hc3 := Tail.cells hw3; have s3 := hw3.size; (try simp at s3); (try have z3_0 : w.heap.size < w3.heap.size := (by omega)); (try have z3_1 : w.heap.size + 1 < w3.heap.size := (by omega)); (try have z3_2 : w.heap.size + 2 < w3.heap.size := (by omega)); (try have z3_3 : w1.heap.size < w3.heap.size := (by omega)); (try have z3_4 : w2.heap.size < w3.heap.size := (by omega)); clear s3) | ((with_reducible refine (cH _ (H.out.later (by repeat (first | (with_reducible exact Below.refl _ _) | (with_reducible refine Below.setCell ?_ ?_ _) | (with_reducible refine Below.drew ?_) | (with_reducible refine Below.alloc ?_ ?_ _) | (with_reducible refine Below.trans ?_ (Below.mono hw3 ?_)) | (with_reducible refine Below.trans ?_ (Below.mono hw2 ?_)) | (with_reducible refine Below.trans ?_ (Below.mono hw1 ?_)) | (with_reducible exact hw3.size) | (with_reducible exact hw2.size) | (with_reducible exact hw1.size) | omega | (simp <;> omega) | (simp <;> (have s := hw3.size; omega)) | (simp <;> (have s := hw2.size; omega)) | (simp <;> (have s := hw1.size; omega)) | (have s0 := hw3.size; (try simp at s0); have s1 := hw2.size; (try simp at s1); have s2 := hw1.size; (try simp at s2); (try simp); omega))))).mono ?_); rintro e w4 ⟨rfl, hw4⟩; have hc4 := Tail.cells hw4; have s4 := hw4.size; (try simp at s4); (try have z4_0 : w.heap.size < w4.heap.size := (by omega)); (try have z4_1 : w.heap.size + 1 < w4.heap.size := (by omega)); (try have z4_2 : w.heap.size + 2 < w4.heap.size := (by omega)); (try have z4_3 : w1.heap.size < w4.heap.size := (by omega)); (try have z4_4 : w2.heap.size < w4.heap.size := (by omega)); (try have z4_5 : w3.heap.size < w4.heap.size := (by omega)); clear s4) | ((with_reducible refine (cP _ _ _ (HO.out.later (by repeat (first | (with_reducible exact Below.refl _ _) | (with_reducible refine Below.setCell ?_ ?_ _) | (with_reducible refine Below.drew ?_) | (with_reducible refine Below.alloc ?_ ?_ _) | (with_reducible refine Below.trans ?_ (Below.mono hw4 ?_)) | (with_reducible refine Below.trans ?_ (Below.mono hw3 ?_)) | (with_reducible exact hw4.size) | (with_reducible exact hw3.size) | omega | (simp <;> omega) | (simp <;> (have s := hw4.size; omega)) | (simp <;> (have s := hw3.size; omega)) | (have s0 := hw4.size; (try simp at s0); have s1 := hw3.size; (try simp at s1); (try simp); omega))))).mono ?_); rintro e w5 ⟨gC, kC, rfl, hC, hgC, hw5⟩; have hc5 := Tail.cells hw5; have s5 := hw5.size; (try simp at s5); (try have z5_0 : w.heap.size < w5.heap.size := (by omega)); (try have z5_1 : w.heap.size + 1 < w5.heap.size := (by omega)); (try have z5_2 : w.heap.size + 2 < w5.heap.size := (by omega)); (try have z5_3 : w1.heap.size < w5.heap.size := (by omega)); (try have z5_4 : w2.heap.size < w5.heap.size := (by omega)); (try have z5_5 : w3.heap.size < w5.heap.size := (by omega)); (try have z5_6 : w4.heap.size < w5.heap.size := (by omega)); clear s5; have HC := Lib.hid hC; clear hC cP) | ((with_reducible refine (cR _ (H.out.later (by repeat (first | (with_reducible exact Below.refl _ _) | (with_reducible refine Below.setCell ?_ ?_ _) | (with_reducible refine Below.drew ?_) | (with_reducible refine Below.alloc ?_ ?_ _) | (with_reducible refine Below.trans ?_ (Below.mono hw5 ?_)) | (with_reducible refine Below.trans ?_ (Below.mono hw4 ?_)) | (with_reducible refine Below.trans ?_ (Below.mono hw3 ?_)) | (with_reducible refine Below.trans ?_ (Below.mono hw2 ?_)) | (with_reducible refine Below.trans ?_ (Below.mono hw1 ?_)) | (with_reducible exact hw5.size) | (with_reducible exact hw4.size) | (with_reducible exact hw3.size) | (with_reducible exact hw2.size) | (with_reducible exact hw1.size) | omega | (simp <;> omega) | (simp <;> (have s := hw5.size; omega)) | (simp <;> (have s := hw4.size; omega)) | (simp <;> (have s := hw3.size; omega)) | (simp <;> (have s := hw2.size; omega)) | (simp <;> (have s := hw1.size; omega)) | (have s0 := hw5.size; (try simp at s0); have s1 := hw4.size; (try simp at s1); have s2 := hw3.size; (try simp at s2); have s3 := hw2.size; (try simp at s3); have s4 := hw1.size; (try simp at s4); (try simp); omega))))).mono ?_); rintro e w6 ⟨gD, kD, rfl, hD, hgD, hw6⟩; have hc6 := Tail.cells hw6; have s6 := hw6.size; (try simp at s6); (try have z6_0 : w.heap.size < w6.heap.size := (by omega)); (try have z6_1 : w.heap.size + 1 < w6.heap.size := (by omega)); (try have z6_2 : w.heap.size + 2 < w6.heap.size := (by omega)); (try have z6_3 : w1.heap.size < w6.heap.size := (by omega)); (try have z6_4 : w2.heap.size < w6.heap.size := (by omega)); (try have z6_5 : w3.heap.size < w6.heap.size := (by omega)); (try have z6_6 : w4.heap.size < w6.heap.size := (by omega)); (try have z6_7 : w5.heap.size < w6.heap.size := (by omega)); clear s6; have HD := Lib.hid hD; clear hD cR) | ((with_reducible refine (sC _ _ _ _ _ (HC.out.h.later (by repeat (first | (with_reducible exact Below.refl _ _) | (with_reducible refine Below.setCell ?_ ?_ _) | (with_reducible refine Below.drew ?_) | (with_reducible refine Below.alloc ?_ ?_ _) | (with_reducible refine Below.trans ?_ (Below.mono hw6 ?_)) | (with_reducible exact hw6.size) | omega | (simp <;> omega) | (simp <;> (have s := hw6.size; omega)) | (have s0 := hw6.size; (try simp at s0); (try simp); omega)))) (HD.out.h.later (by repeat (first | (with_reducible exact Below.refl _ _) | (with_reducible refine Below.setCell ?_ ?_ _) | (with_reducible refine Below.drew ?_) | (with_reducible refine Below.alloc ?_ ?_ _) | omega | (simp <;> omega))))).mono ?_); rintro e w7 ⟨rfl, hw7⟩; have hc7 := Tail.cells hw7; have s7 := hw7.size; (try simp at s7); (try have z7_0 : w.heap.size < w7.heap.size := (by omega)); (try have z7_1 : w.heap.size + 1 < w7.heap.size := (by omega)); (try have z7_2 : w.heap.size + 2 < w7.heap.size := (by omega)); (try have z7_3 : w1.heap.size < w7.heap.size := (by omega)); (try have z7_4 : w2.heap.size < w7.heap.size := (by omega)); (try have z7_5 : w3.heap.size < w7.heap.size := (by omega)); (try have z7_6 : w4.heap.size < w7.heap.size := (by omega)); (try have z7_7 : w5.heap.size < w7.heap.size := (by omega)); (try have z7_8 : w6.heap.size < w7.heap.size := (by omega)); clear s7))
  have hz2 : w2.heap.size < w4.heap.size := by have h3 := hw3.size; have h4 := hw4.size; simp at h3 h4; omega
  have hz0 : w.heap.size + 2 < w2.heap.size := by have h1 := hw1.size; have h2 := hw2.size; simp at h1 h2 hgO; omega
  have hz5 : w4.heap.size < gC := by simp at hgC; omega
  have hzc : gC < w5.heap.size := HC.out.lt
  have F7 := ((((((((((((⟨by simp [go_sem], by simp [go_sem], by simp [go_sem], by simp [go_sem], by simp <;> omega⟩ : FBox (((w.alloc (.cells #[.int .i64 a, .int .i64 b, .int .i64 c, .slice (some ⟨bl, off, none⟩) L.length cap] 25)).alloc (.cells #[.int .i64 x, .int .i64 y, .int .i64 z, .int .i64 s, .int .i64 t, .int .i64 d] 27)).alloc (.cells #[.int .i64 u.a, .int .i64 u.b, .int .i64 u.c, .int .i64 u.d, .int .i64 u.n] 29)) w.heap.size a b c (.slice (some ⟨bl, off, none⟩) L.length cap)).later hw1).later hw2).later ((Below.refl _ _).alloc (Nat.le_refl _) _)).later hw3).later ((Below.refl _ _).alloc (Nat.le_refl _) _)).later hw4).later ((Below.refl _ _).alloc (Nat.le_refl _) _)).later hw5).later ((Below.refl _ _).alloc (Nat.le_refl _) _)).later hw6).later ((Below.refl _ _).alloc (Nat.le_refl _) _)).later hw7
  have O7 := (((((((((⟨by simp [go_sem], by simp [go_sem], by simp [go_sem], by simp [go_sem], by simp⟩ : FBox (w2.alloc (.cells #[.int .i64 a, .int .i64 b, .int .i64 c, .slice (some ⟨gO, 0, none⟩) L.length kO] 25)) w2.heap.size a b c (.slice (some ⟨gO, 0, none⟩) L.length kO)).later hw3).later ((Below.refl _ _).alloc (Nat.le_refl _) _)).later hw4).later ((Below.refl _ _).alloc (Nat.le_refl _) _)).later hw5).later ((Below.refl _ _).alloc (Nat.le_refl _) _)).later hw6).later ((Below.refl _ _).alloc (Nat.le_refl _) _)).later hw7
  have C7 := (((⟨by simp [go_sem], by simp [go_sem], by simp [go_sem], by simp [go_sem], by simp⟩ : FBox (w5.alloc (.cells #[.int .i64 a, .int .i64 b, .int .i64 c, .slice (some ⟨gC, 0, none⟩) L.length kC] 25)) w5.heap.size a b c (.slice (some ⟨gC, 0, none⟩) L.length kC)).later hw6).later ((Below.refl _ _).alloc (Nat.le_refl _) _)).later hw7
  have LC7 := (((HC.out.later ((Below.refl _ _).alloc (Nat.le_refl _) _)).later hw6).later ((Below.refl _ _).alloc (Nat.le_refl _) _)).later hw7
  have LO7 := (((((((((HO.out.later ((Below.refl _ _).alloc (Nat.le_refl _) _)).later hw3).later ((Below.refl _ _).alloc (Nat.le_refl _) _)).later hw4).later ((Below.refl _ _).alloc (Nat.le_refl _) _)).later hw5).later ((Below.refl _ _).alloc (Nat.le_refl _) _)).later hw6).later ((Below.refl _ _).alloc (Nat.le_refl _) _)).later hw7
  have hb7 : Below w.heap.size w w7 := by repeat (first | (with_reducible exact Below.refl _ _) | (with_reducible refine Below.setCell ?_ ?_ _) | (with_reducible refine Below.drew ?_) | (with_reducible refine Below.alloc ?_ ?_ _) | (with_reducible refine Below.trans ?_ (Below.mono hw7 ?_)) | (with_reducible refine Below.trans ?_ (Below.mono hw6 ?_)) | (with_reducible refine Below.trans ?_ (Below.mono hw5 ?_)) | (with_reducible refine Below.trans ?_ (Below.mono hw4 ?_)) | (with_reducible refine Below.trans ?_ (Below.mono hw3 ?_)) | (with_reducible refine Below.trans ?_ (Below.mono hw2 ?_)) | (with_reducible refine Below.trans ?_ (Below.mono hw1 ?_)) | (with_reducible exact hw7.size) | (with_reducible exact hw6.size) | (with_reducible exact hw5.size) | (with_reducible exact hw4.size) | (with_reducible exact hw3.size) | (with_reducible exact hw2.size) | (with_reducible exact hw1.size) | omega | (simp <;> omega) | (simp <;> (have s := hw7.size; omega)) | (simp <;> (have s := hw6.size; omega)) | (simp <;> (have s := hw5.size; omega)) | (simp <;> (have s := hw4.size; omega)) | (simp <;> (have s := hw3.size; omega)) | (simp <;> (have s := hw2.size; omega)) | (simp <;> (have s := hw1.size; omega)) | (have s0 := hw7.size; (try simp at s0); have s1 := hw6.size; (try simp at s1); have s2 := hw5.size; (try simp at s2); have s3 := hw4.size; (try simp at s3); have s4 := hw3.size; (try simp at s4); have s5 := hw2.size; (try simp at s5); have s6 := hw1.size; (try simp at s6); (try simp); omega))
  have LF7 := H.out.later hb7
  have HF7 := Lib.hid F7
  have HO7 := Lib.hid O7
  have HLO7 := Lib.hid LO7
  have HLF7 := Lib.hid LF7
  clear F7 O7 LO7 LF7 hw1 hw2 hw3 hw4 hw5 hw6 hw7 hc1 hc2 hc3 hc4 hc5 hc6 hc7 HC HD HO H hgC hgD hgO
  generalize hcb : w5.heap.size = cb at *
  have hcb4 : w4.heap.size < cb := by omega
  clear hcb
  generalize w4.heap.size = B0 at *
  generalize w2.heap.size = ob at *
  go_loopw [17] (fun q wr => ∃ (k : Nat) (N : List Q), k ≤ L.length ∧ q = .int .i64 k ∧ Hid (N.length = L.length) ∧ LBox wr gC N ∧ FBox wr cb a b c (.slice (some ⟨gC, 0, none⟩) L.length kC) ∧ FBox wr w.heap.size a b c (.slice (some ⟨bl, off, none⟩) L.length cap) ∧ FBox wr ob a b c (.slice (some ⟨gO, 0, none⟩) L.length kO) ∧ Below B0 w7 wr ∧ Below w.heap.size w wr) (fun q _ => L.length - (intOf q).toNat)
  case atStart => exact ⟨0, M, by omega, rfl, HML, LC7, C7, HF7.out, HO7.out, Below.refl _ _, hb7⟩
  case round =>
    obtain ⟨k, N, hk, rfl, hNL, lb, fc, ff, fo, hbB, hb⟩ := hrel
    clear LC7 C7
    have LB := Lib.hid lb
    have FC := Lib.hid fc
    have FF := Lib.hid ff
    have FO := Lib.hid fo
    by_cases hlt : k < L.length
    · have i1 : (k : Int) < (L.length : Int) := by omega
      have hx : N[k]? = some (N[k]'(by rw [hNL.out]; exact hlt)) := List.getElem?_eq_getElem _
      obtain ⟨l0, l1, l2, l3, l4⟩ := lb.at hx
      have lf := lb.free
      have lbl := lb.lt
      generalize N[k]'(by rw [hNL.out]; exact hlt) = y at *
      have HX := Lib.hid hx
      obtain ⟨f0, f1, f2, f3, fl⟩ := fc
      clear hx lb ff fo
      go_wp2
      have G1 := grown_setCell wr ⟨gC, k * 5 + 4, none⟩ (.int .i64 (-1))
      have L1 := LB.out.minus k y HX.out (-1)
      exact ⟨⟨k + 1, _, by omega, by go_num, Lib.hid (by rw [List.length_set]; exact hNL.out), L1, FC.out.grown G1 (by simp; omega), FF.out.grown G1 (by simp; omega), FO.out.grown G1 (by simp; omega), hbB.setCell (p := ⟨gC, _, none⟩) (by show B0 ≤ gC; omega) _, hb.setCell (p := ⟨gC, _, none⟩) (by show w.heap.size ≤ gC; omega) _⟩, by simp [intOf]; omega⟩
    · obtain rfl : k = L.length := by omega
      have A1 := HLO7.out.laterB hbB (by omega)
      have A2 := HLF7.out.laterB hbB (by omega)
      obtain ⟨f0, f1, f2, f3, fl⟩ := ff
      obtain ⟨g0, g1, g2, g3, gl⟩ := fo
      obtain ⟨h0, h1, h2, h3, hl⟩ := fc
      clear lb
      go_wp2_with (first | ((with_reducible refine (sO _ _ _ A1 A2).mono ?_); rintro e w8 ⟨rfl, hw8⟩) | ((with_reducible refine (kn _).mono ?_); rintro e w9 ⟨rfl, hw9⟩))
      go_ret
      exact ⟨rfl, by repeat (first | (with_reducible exact Below.refl _ _) | (with_reducible refine Below.setCell ?_ ?_ _) | (with_reducible refine Below.drew ?_) | (with_reducible refine Below.alloc ?_ ?_ _) | (with_reducible refine Below.trans ?_ (Below.mono hw9 ?_)) | (with_reducible refine Below.trans ?_ (Below.mono hw8 ?_)) | (with_reducible refine Below.trans ?_ (Below.mono hb ?_)) | (with_reducible exact hw9.size) | (with_reducible exact hw8.size) | (with_reducible exact hb.size) | omega | (simp <;> omega) | (simp <;> (have s := hw9.size; omega)) | (simp <;> (have s := hw8.size; omega)) | (simp <;> (have s := hb.size; omega)) | (have s0 := hw9.size; (try simp at s0); have s1 := hw8.size; (try simp at s1); have s2 := hb.size; (try simp at s2); (try simp); omega))⟩

theorem torusLinks_walk (a b c : Int) (fo : Option Addr) (L : List Q) (cap : Nat) (x y z s t d : Int) (u : Q) (w : World) (hc : L.length ≤ maxLen) (hL : LiesO w fo L) (hnil : fo = none → cap = 0) : Calls Try.prog 3 #[.agg #[.int .i64 a, .int .i64 b, .int .i64 c, .slice fo L.length cap], .agg #[.int .i64 x, .int .i64 y, .int .i64 z, .int .i64 s, .int .i64 t, .int .i64 d], .agg #[.int .i64 u.a, .int .i64 u.b, .int .i64 u.c, .int .i64 u.d, .int .i64 u.n]] w fun e w' => e = .returned (.bool true) ∧ Below w.heap.size w w' := by
  by_cases hn : 100 < L.length
  · exact torusLinks_long a b c x y z s t d u fo _ cap w hn
  · have hlen : L.length ≤ 1000000 := by omega
    obtain ⟨r, hr⟩ := lnR_ex a b c L s d
    by_cases h0 : r = 0
    · subst h0
      obtain ⟨hf, s0, s1, d0, d1⟩ : fldR a b c L 0 ∧ 0 ≤ s ∧ s < a * b * c ∧ 0 ≤ d ∧ d ≤ 2 := by
        rcases hr with ⟨_, h⟩ | ⟨_, _, h⟩ | ⟨_, _, _, _, h⟩ | ⟨h1, h2, h3, h4, h5, _⟩
        · exact absurd rfl h
        · exact absurd h (by decide)
        · exact absurd h (by decide)
        · exact ⟨h1, h2, h3, h4, h5⟩
      have hF := fldR_Fl hf
      obtain ⟨bl, off, rfl, hli⟩ := fld_some hf hL
      obtain ⟨r2, hu⟩ := LinkR.ex u
      by_cases h2 : r2 = 0
      · subst h2
        exact torusLinks_ok a b c x y z s t d u bl off cap L w (by omega) hli hF s0 s1 d0 d1 hu
      · have hne : L ≠ [] := by
          rintro rfl
          have h3 := hF.n
          obtain ⟨-, -, p3, -⟩ := mul_rng hF.z.a1 hF.z.a4 hF.z.b1 hF.z.b4 hF.z.c1 hF.z.c4
          simp at h3; omega
        have get : ∀ W : World, LiesO W (some ⟨bl, off, none⟩) L → Lies W bl off L := fun W h => by
          rcases h with h | ⟨b1, o1, e, h⟩
          · exact absurd h hne
          · simp at e
            obtain ⟨rfl, rfl⟩ := e
            exact h
        exact torusLinks_err a b c x y z s t d 0 r2 u (lk L (3 * s + d)) _ cap L w (by omega) hL hnil (fun g k W h => get_ok a b c s d g 0 k L W h hr hF s0 s1 d0 d1) (fun W h => refGet_ok a b c s d bl off cap L W (get W h) hr hF s0 s1 d0 d1) (fun g k W h => put_bad2 a b c s d r2 u (some ⟨g, 0, none⟩) k L W (.inr ⟨g, 0, rfl, h⟩) hr hu h2 hlen) (fun W h => refPut_bad2 a b c s d r2 u _ cap L W h hr hu h2 hlen)
    · exact torusLinks_err a b c x y z s t d r r u zero fo cap L w (by omega) hL hnil (fun g k W h => get_bad a b c s d r (some ⟨g, 0, none⟩) k L W (.inr ⟨g, 0, rfl, h⟩) hr h0 hlen) (fun W h => refGet_bad a b c s d r fo cap L W h hr h0 hlen) (fun g k W h => put_bad a b c s d r u (some ⟨g, 0, none⟩) k L W (.inr ⟨g, 0, rfl, h⟩) hr h0 hlen) (fun W h => refPut_bad a b c s d r u fo cap L W h hr h0 hlen)

/-! ### The statement of the law TorusLinks, out of its walk -/
set_option maxRecDepth 100000 in
theorem torusLinks_lifted (os : Os) (started : os.Started) (H : Type) (enc : TypeId × Value → H) :
    ReturnsInHanded {} Try.checked os 3 .any (Rows.torusLinksSpec.pre6 enc Try.prog Try.f3 Rows.torusLinksRow.domain false) (Rows.torusLinksSpec.post enc Try.prog Try.f3 false true false false) := by
  refine returnsInHanded_of_change (C := Try.checked) own started (by kernel_rfl) Try.func3
    (ChangeSpec.witness6 (enc := enc) (C := Try.checked) false ⟨#[], #[.agg #[.int .i64 0, .int .i64 0, .int .i64 0, .slice none 0 0], .agg #[.int .i64 0, .int .i64 0, .int .i64 0, .int .i64 0, .int .i64 0, .int .i64 0], .agg #[.int .i64 0, .int .i64 0, .int .i64 0, .int .i64 0, .int .i64 0]], []⟩ 8 (by kernel_rfl) (by kernel_rfl) (by kernel_rfl) (by kernel_rfl)) ?_
  intro W base args ds gs before hval0 hW hcnd _
  have hval : ∀ (j : Nat) t v, Try.f3.params[j]? = some t → args[j]? = some v → Value.okWide Try.prog W .any base t v := hval0
  have hW' := hW
  obtain ⟨p, q, hA0, hV, rfl, hfz, hnd⟩ := hW
  have hA : DataW.TrodAll enc Try.prog W 0 (fun _ => true) true Try.f3.params.toList args.toList ds p := hA0
  rw [Try.params3] at hA hval
  obtain ⟨v0, vs0, d0, ds0, p0, q0, hargs, rfl, rfl, h0, r0⟩ := trodAll_cons hA
  obtain ⟨v1, vs1, d1, ds1, p1, q1, rfl, rfl, rfl, h1, r1⟩ := trodAll_cons r0
  obtain ⟨v2, vs2, d2, ds2, p2, q2, rfl, rfl, rfl, h2, r2⟩ := trodAll_cons r1
  obtain ⟨rfl, rfl, rfl⟩ := trodAll_nil r2
  obtain rfl : args = #[v0, v1, v2] := by cases args; simp_all
  obtain ⟨rfl, rfl⟩ := trodVars_none hV
  have k0 := h0
  have lt0 : ∀ x ∈ p0, x.block < W.heap.size := by obtain ⟨m, hm⟩ := k0; exact DataW.trod_lt m _ _ _ hm
  obtain ⟨x0, y0, z0, ao0, L0, cap0, rfl, hl0, hm0, hnil0⟩ := open_fieldN (hval 0 25 v0 rfl rfl) h0
  have k1 := h1
  have lt1 : ∀ x ∈ p1, x.block < W.heap.size := by obtain ⟨m, hm⟩ := k1; exact DataW.trod_lt m _ _ _ hm
  obtain ⟨x1, y1, z1, s1, t1, d1, rfl⟩ := open_where (hval 1 27 v1 rfl rfl) h1
  have k2 := h2
  have lt2 : ∀ x ∈ p2, x.block < W.heap.size := by obtain ⟨m, hm⟩ := k2; exact DataW.trod_lt m _ _ _ hm
  obtain ⟨x2, rfl⟩ := open_unit (hval 2 29 v2 rfl rfl) h2
  clear hA0 hval0
  refine (torusLinks_walk x0 y0 z0 ao0 L0 cap0 x1 y1 z1 s1 t1 d1 x2 W hl0 hm0 hnil0).mono fun e W' ⟨he, bel⟩ => ?_
  subst he
  exact ⟨_, rfl, _, _, _, [], _, [], hW', trodAll_mk1 (shut_bool Try.underlying4 _), (trodAll_cons_mk (Below.trod laidOut (by kernel_rfl) (of_decide_eq_true (by kernel_rfl)) k0 bel lt0) (trodAll_cons_mk (Below.trod laidOut (by kernel_rfl) (of_decide_eq_true (by kernel_rfl)) k1 bel lt1) (trodAll_cons_mk (Below.trod laidOut (by kernel_rfl) (of_decide_eq_true (by kernel_rfl)) k2 bel lt2) trodAll_mk0))), rfl, bel.frame _, fun h => by cases h⟩

theorem torusLinks_jf9 : (Rows.torusLinksRow.inPlace == Try.prog.inPlace 3) = true := by kernel_rfl
theorem torusLinks_jf10 : (Rows.torusLinksRow.unfollowed == Try.prog.unfollowed 3) = true := by kernel_rfl
theorem torusLinks_jf11 : (Rows.torusLinksRow.recurses == Try.prog.recurses 3) = true := by kernel_rfl
theorem torusLinks_jf12 : (Rows.torusLinksRow.named == Try.prog.varsNamed 3) = true := by kernel_rfl
theorem torusLinks_facts : joinedFacts Try.prog 3 Try.f3 Rows.torusLinksSpec Rows.torusLinksRow = true := by
  unfold joinedFacts
  exact (band (band (band (band (band (band (band (band (band (band (band (band (band (band (band (band (band (band (band (band (band (band (band (band (band (band (band (band (band (band (band (by kernel_rfl) jf1) jf2) (by kernel_rfl)) (by kernel_rfl)) (by kernel_rfl)) jf6) (by kernel_rfl)) jf8) torusLinks_jf9) torusLinks_jf10) torusLinks_jf11) torusLinks_jf12) (by kernel_rfl)) (by kernel_rfl)) (by kernel_rfl)) (by kernel_rfl)) (by kernel_rfl)) (by kernel_rfl)) (by kernel_rfl)) (by kernel_rfl)) (by kernel_rfl)) (by kernel_rfl)) (by kernel_rfl)) jf24) jf25) jf26) jf27) (by kernel_rfl)) (by kernel_rfl)) (by kernel_rfl)) (by kernel_rfl))

theorem torusLinks_over : Rows.torusLinksRow.holds Try.pinned (OpenSpec.ofChange Rows.torusLinksSpec) :=
  OpenClaim.holds_of_wide 3 Try.f3 rfl rfl rfl rfl rfl rfl rfl ⟨rfl, rfl, rfl, rfl, rfl⟩ rfl rfl rfl rfl rfl (by kernel_rfl) Try.func3 torusLinks_facts
    (of_decide_eq_true (by kernel_rfl)) (by unfold Func.isWrapper; first | (rw [if_pos (by decide +kernel)]; kernel_rfl) | (rw [if_neg (by decide +kernel)]; exact ⟨rfl, rfl⟩))
    (fun os started H enc _ => torusLinks_lifted os started H enc)

theorem torusLinks_holds : Rows.TorusLinksSaid := torusLinks_over
#print axioms torusLinks_holds

end Go.Proofs.Ytoafojojhdcmfaa
