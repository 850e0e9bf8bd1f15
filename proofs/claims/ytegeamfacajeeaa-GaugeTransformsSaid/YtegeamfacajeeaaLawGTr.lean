/- GaugeTransforms: what a gauge transformation makes of a field is what the document says, for all fields and lists of units.
Conditions: none. -/
import Derived.Test.YtegeamfacajeeaaGsC
import Derived.Test.YtegeamfacajeeaaSameU4
import Derived.Test.YtegeamfacajeeaaOpen4
import Derived.Test.YtegeamfacajeeaaJFacts
namespace Go.Proofs.Ytegeamfacajeeaa
set_option linter.unusedVariables false
set_option linter.unusedSimpArgs false
set_option maxRecDepth 1000000
open Go.ChangeShapes Go.WideShapes Go.ChangeAt Go.RowKit
open Um Tm

/-- a field and no error are answered -/
def RetTr (a b c : Int) (n : Nat) (T : List Q) (e : Ending) (w' : World) : Prop := ∃ g k : Nat, e = .returned (.tuple #[.agg #[.int .i64 a, .int .i64 b, .int .i64 c, .slice (some ⟨g, 0, none⟩) n k], .int .i64 0]) ∧ LBox w' g T
set_option maxHeartbeats 3200000 in
theorem gTr_long (a b c : Int) (ao go : Option Addr) (cap gc : Nat) (L G : List Q) (w : World) (h : 200 < L.length) : Calls Try.prog 4 #[.agg #[.int .i64 a, .int .i64 b, .int .i64 c, .slice ao L.length cap], .slice go G.length gc] w fun e w' => e = .returned (.bool true) ∧ Below w.heap.size w w' := by
  have kn := sane4_any
  have c0 := fun W : World => long4_any a b c ao cap L true W (.inl ⟨h, rfl⟩)
  go_enter Try.func4, Try.ntmps4
  go_wp2_with ((with_reducible refine (c0 _).mono ?_); clear c0; rintro e w1 ⟨rfl, hw1⟩; have hc1 := Tail.cells hw1; have s1 := hw1.size; (try simp at s1); (try have z1_0 : w.heap.size < w1.heap.size := (by omega)); clear s1)
  go_wp2_with ((with_reducible refine (kn _).mono ?_); rintro e w2 ⟨rfl, hw2⟩; have hc2 := Tail.cells hw2; have s2 := hw2.size; (try simp at s2); (try have z2_0 : w.heap.size < w2.heap.size := (by omega)); (try have z2_1 : w1.heap.size < w2.heap.size := (by omega)); clear s2)
  go_ret
  exact ⟨rfl, by repeat (first | (with_reducible exact Below.refl _ _) | (with_reducible refine Below.setCell ?_ ?_ _) | (with_reducible refine Below.drew ?_) | (with_reducible refine Below.alloc ?_ ?_ _) | (with_reducible refine Below.trans ?_ (Below.mono hw2 ?_)) | (with_reducible refine Below.trans ?_ (Below.mono hw1 ?_)) | (with_reducible exact hw2.size) | (with_reducible exact hw1.size) | omega | (simp <;> omega) | (simp <;> (have s := hw2.size; omega)) | (simp <;> (have s := hw1.size; omega)) | (have s0 := hw2.size; (try simp at s0); have s1 := hw1.size; (try simp at s1); (try simp); omega))⟩
set_option maxHeartbeats 3200000 in
theorem gTr_many (a b c : Int) (ao go : Option Addr) (cap gc : Nat) (L G : List Q) (w : World) (h : L.length ≤ 200) (h2 : 100 < G.length) : Calls Try.prog 4 #[.agg #[.int .i64 a, .int .i64 b, .int .i64 c, .slice ao L.length cap], .slice go G.length gc] w fun e w' => e = .returned (.bool true) ∧ Below w.heap.size w w' := by
  have kn := sane4_any
  have i1 : (G.length : Int) > 100 := by omega
  have c0 := fun W : World => long4_any a b c ao cap L false W (.inr ⟨h, rfl⟩)
  go_enter Try.func4, Try.ntmps4
  go_wp2_with ((with_reducible refine (c0 _).mono ?_); clear c0; rintro e w1 ⟨rfl, hw1⟩; have hc1 := Tail.cells hw1; have s1 := hw1.size; (try simp at s1); (try have z1_0 : w.heap.size < w1.heap.size := (by omega)); clear s1)
  go_wp2_with ((with_reducible refine (kn _).mono ?_); rintro e w2 ⟨rfl, hw2⟩; have hc2 := Tail.cells hw2; have s2 := hw2.size; (try simp at s2); (try have z2_0 : w.heap.size < w2.heap.size := (by omega)); (try have z2_1 : w1.heap.size < w2.heap.size := (by omega)); clear s2)
  go_ret
  exact ⟨rfl, by repeat (first | (with_reducible exact Below.refl _ _) | (with_reducible refine Below.setCell ?_ ?_ _) | (with_reducible refine Below.drew ?_) | (with_reducible refine Below.alloc ?_ ?_ _) | (with_reducible refine Below.trans ?_ (Below.mono hw2 ?_)) | (with_reducible refine Below.trans ?_ (Below.mono hw1 ?_)) | (with_reducible exact hw2.size) | (with_reducible exact hw1.size) | omega | (simp <;> omega) | (simp <;> (have s := hw2.size; omega)) | (simp <;> (have s := hw1.size; omega)) | (have s0 := hw2.size; (try simp at s0); have s1 := hw1.size; (try simp at s1); (try simp); omega))⟩
set_option maxHeartbeats 3200000 in
theorem gTr_err (a b c r : Int) (ao go : Option Addr) (cap gc : Nat) (L G : List Q) (w : World) (h : L.length ≤ 200) (h2 : G.length ≤ 100) (hm : LiesO w ao L) (hg : LiesO w go G) (h0 : r ≠ 0)
    (c1 : ∀ (W : World), LiesO W ao L → LiesO W go G → Calls Try.prog 20 #[.agg #[.int .i64 a, .int .i64 b, .int .i64 c, .slice ao L.length cap], .slice go G.length gc] W fun e w' => e = .returned (.tuple #[.agg #[.int .i64 0, .int .i64 0, .int .i64 0, .slice none 0 0], .int .i64 r]) ∧ Below W.heap.size W w')
    (c2 : ∀ (W : World), LiesO W ao L → LiesO W go G → Calls Try.prog 21 #[.agg #[.int .i64 a, .int .i64 b, .int .i64 c, .slice ao L.length cap], .slice go G.length gc] W fun e w' => e = .returned (.tuple #[.agg #[.int .i64 0, .int .i64 0, .int .i64 0, .slice none 0 0], .int .i64 r]) ∧ Below W.heap.size W w') : Calls Try.prog 4 #[.agg #[.int .i64 a, .int .i64 b, .int .i64 c, .slice ao L.length cap], .slice go G.length gc] w fun e w' => e = .returned (.bool true) ∧ Below w.heap.size w w' := by
  have kn := sane4_any
  have c0 := fun W : World => long4_any a b c ao cap L false W (.inr ⟨h, rfl⟩)
  have H := Lib.hid hm
  have K := Lib.hid hg
  have i1 : ¬ (G.length : Int) > 100 := by omega
  clear hm hg h h2
  have t1 : (r != r) = false := by simp
  have t2 : (r != 0) = true := by simpa using h0
  have sf : ∀ W : World, Calls Try.prog 22 #[.agg #[.int .i64 0, .int .i64 0, .int .i64 0, .slice none 0 0], .agg #[.int .i64 0, .int .i64 0, .int .i64 0, .slice none 0 0]] W fun e w' => e = .returned (.bool true) ∧ Below W.heap.size W w' := fun W => sameF4_any 0 0 0 none none 0 0 [] W (.inl rfl) (.inl rfl) (by simp)
  clear h0
  go_enter Try.func4, Try.ntmps4
  go_wp2_with ((with_reducible refine (c0 _).mono ?_); clear c0; rintro e w1 ⟨rfl, hw1⟩; have hc1 := Tail.cells hw1; have s1 := hw1.size; (try simp at s1); (try have z1_0 : w.heap.size < w1.heap.size := (by omega)); clear s1)
  go_wp2_with ((with_reducible refine (c1 _ (H.out.later (by repeat (first | (with_reducible exact Below.refl _ _) | (with_reducible refine Below.setCell ?_ ?_ _) | (with_reducible refine Below.drew ?_) | (with_reducible refine Below.alloc ?_ ?_ _) | (with_reducible refine Below.trans ?_ (Below.mono hw1 ?_)) | (with_reducible exact hw1.size) | omega | (simp <;> omega) | (simp <;> (have s := hw1.size; omega)) | (have s0 := hw1.size; (try simp at s0); (try simp); omega)))) (K.out.later (by repeat (first | (with_reducible exact Below.refl _ _) | (with_reducible refine Below.setCell ?_ ?_ _) | (with_reducible refine Below.drew ?_) | (with_reducible refine Below.alloc ?_ ?_ _) | (with_reducible refine Below.trans ?_ (Below.mono hw1 ?_)) | (with_reducible exact hw1.size) | omega | (simp <;> omega) | (simp <;> (have s := hw1.size; omega)) | (have s0 := hw1.size; (try simp at s0); (try simp); omega))))).mono ?_); clear c1; rintro e w2 ⟨rfl, hw2⟩; have hc2 := Tail.cells hw2; have s2 := hw2.size; (try simp at s2); (try have z2_0 : w.heap.size < w2.heap.size := (by omega)); (try have z2_1 : w1.heap.size < w2.heap.size := (by omega)); clear s2)
  go_wp2_with ((with_reducible refine (c2 _ (H.out.later (by repeat (first | (with_reducible exact Below.refl _ _) | (with_reducible refine Below.setCell ?_ ?_ _) | (with_reducible refine Below.drew ?_) | (with_reducible refine Below.alloc ?_ ?_ _) | (with_reducible refine Below.trans ?_ (Below.mono hw1 ?_)) | (with_reducible refine Below.trans ?_ (Below.mono hw2 ?_)) | (with_reducible exact hw1.size) | (with_reducible exact hw2.size) | omega | (simp <;> omega) | (simp <;> (have s := hw1.size; omega)) | (simp <;> (have s := hw2.size; omega)) | (have s0 := hw1.size; (try simp at s0); have s1 := hw2.size; (try simp at s1); (try simp); omega)))) (K.out.later (by repeat (first | (with_reducible exact Below.refl _ _) | (with_reducible refine Below.setCell ?_ ?_ _) | (with_reducible refine Below.drew ?_) | (with_reducible refine Below.alloc ?_ ?_ _) | (with_reducible refine Below.trans ?_ (Below.mono hw1 ?_)) | (with_reducible refine Below.trans ?_ (Below.mono hw2 ?_)) | (with_reducible exact hw1.size) | (with_reducible exact hw2.size) | omega | (simp <;> omega) | (simp <;> (have s := hw1.size; omega)) | (simp <;> (have s := hw2.size; omega)) | (have s0 := hw1.size; (try simp at s0); have s1 := hw2.size; (try simp at s1); (try simp); omega))))).mono ?_); clear c2; rintro e w3 ⟨rfl, hw3⟩; have hc3 := Tail.cells hw3; have s3 := hw3.size; (try simp at s3); (try have z3_0 : w.heap.size < w3.heap.size := (by omega)); (try have z3_1 : w1.heap.size < w3.heap.size := (by omega)); (try have z3_2 : w2.heap.size < w3.heap.size := (by omega)); clear s3)
  go_wp2_with ((with_reducible refine (sf _).mono ?_); clear sf; rintro e w4 ⟨rfl, hw4⟩; have hc4 := Tail.cells hw4; have s4 := hw4.size; (try simp at s4); (try have z4_0 : w.heap.size < w4.heap.size := (by omega)); (try have z4_1 : w1.heap.size < w4.heap.size := (by omega)); (try have z4_2 : w2.heap.size < w4.heap.size := (by omega)); (try have z4_3 : w3.heap.size < w4.heap.size := (by omega)); clear s4)
  go_wp2_with ((with_reducible refine (kn _).mono ?_); rintro e w5 ⟨rfl, hw5⟩; have hc5 := Tail.cells hw5; have s5 := hw5.size; (try simp at s5); (try have z5_0 : w.heap.size < w5.heap.size := (by omega)); (try have z5_1 : w1.heap.size < w5.heap.size := (by omega)); (try have z5_2 : w2.heap.size < w5.heap.size := (by omega)); (try have z5_3 : w3.heap.size < w5.heap.size := (by omega)); (try have z5_4 : w4.heap.size < w5.heap.size := (by omega)); clear s5)
  go_ret
  exact ⟨rfl, by repeat (first | (with_reducible exact Below.refl _ _) | (with_reducible refine Below.setCell ?_ ?_ _) | (with_reducible refine Below.drew ?_) | (with_reducible refine Below.alloc ?_ ?_ _) | (with_reducible refine Below.trans ?_ (Below.mono hw5 ?_)) | (with_reducible refine Below.trans ?_ (Below.mono hw4 ?_)) | (with_reducible refine Below.trans ?_ (Below.mono hw3 ?_)) | (with_reducible refine Below.trans ?_ (Below.mono hw2 ?_)) | (with_reducible refine Below.trans ?_ (Below.mono hw1 ?_)) | (with_reducible exact hw5.size) | (with_reducible exact hw4.size) | (with_reducible exact hw3.size) | (with_reducible exact hw2.size) | (with_reducible exact hw1.size) | omega | (simp <;> omega) | (simp <;> (have s := hw5.size; omega)) | (simp <;> (have s := hw4.size; omega)) | (simp <;> (have s := hw3.size; omega)) | (simp <;> (have s := hw2.size; omega)) | (simp <;> (have s := hw1.size; omega)) | (have s0 := hw5.size; (try simp at s0); have s1 := hw4.size; (try simp at s1); have s2 := hw3.size; (try simp at s2); have s3 := hw2.size; (try simp at s3); have s4 := hw1.size; (try simp at s4); (try simp); omega))⟩
set_option maxHeartbeats 6400000 in
theorem gTr_ok (a b c : Int) (ao go : Option Addr) (cap gc : Nat) (L G : List Q) (w : World) (h : L.length ≤ 200) (h2 : G.length ≤ 100) (hm : LiesO w ao L) (hg : LiesO w go G) (T B : List Q)
    (c1 : ∀ (W : World), LiesO W ao L → LiesO W go G → Calls Try.prog 20 #[.agg #[.int .i64 a, .int .i64 b, .int .i64 c, .slice ao L.length cap], .slice go G.length gc] W fun e w' => RetTr a b c L.length T e w' ∧ Below W.heap.size W w')
    (c2 : ∀ (W : World), LiesO W ao L → LiesO W go G → Calls Try.prog 21 #[.agg #[.int .i64 a, .int .i64 b, .int .i64 c, .slice ao L.length cap], .slice go G.length gc] W fun e w' => RetTr a b c L.length T e w' ∧ Below W.heap.size W w')
    (s1 : ∀ (W : World) (g k g' k' : Nat), LBox W g T → LBox W g' T → Calls Try.prog 22 #[.agg #[.int .i64 a, .int .i64 b, .int .i64 c, .slice (some ⟨g, 0, none⟩) L.length k], .agg #[.int .i64 a, .int .i64 b, .int .i64 c, .slice (some ⟨g', 0, none⟩) L.length k']] W fun e w' => e = .returned (.bool true) ∧ Below W.heap.size W w')
    (c3 : ∀ (W : World) (g k : Nat), LBox W g T → LiesO W go G → Calls Try.prog 15 #[.agg #[.int .i64 a, .int .i64 b, .int .i64 c, .slice (some ⟨g, 0, none⟩) L.length k], .slice go G.length gc] W fun e w' => (∃ g' k' : Nat, e = .returned (.tuple #[.slice (some ⟨g', 0, none⟩) G.length k', .int .i64 0]) ∧ LBox w' g' B) ∧ Below W.heap.size W w')
    (c4 : ∀ (W : World) (g k g' k' : Nat), LBox W g T → LBox W g' B → Calls Try.prog 20 #[.agg #[.int .i64 a, .int .i64 b, .int .i64 c, .slice (some ⟨g, 0, none⟩) L.length k], .slice (some ⟨g', 0, none⟩) G.length k'] W fun e w' => RetTr a b c L.length L e w' ∧ Below W.heap.size W w')
    (s2 : ∀ (W : World) (g k : Nat), LBox W g L → LiesO W ao L → Calls Try.prog 22 #[.agg #[.int .i64 a, .int .i64 b, .int .i64 c, .slice (some ⟨g, 0, none⟩) L.length k], .agg #[.int .i64 a, .int .i64 b, .int .i64 c, .slice ao L.length cap]] W fun e w' => e = .returned (.bool true) ∧ Below W.heap.size W w') : Calls Try.prog 4 #[.agg #[.int .i64 a, .int .i64 b, .int .i64 c, .slice ao L.length cap], .slice go G.length gc] w fun e w' => e = .returned (.bool true) ∧ Below w.heap.size w w' := by
  have kn := sane4_any
  have c0 := fun W : World => long4_any a b c ao cap L false W (.inr ⟨h, rfl⟩)
  have H := Lib.hid hm
  have K := Lib.hid hg
  have i1 : ¬ (G.length : Int) > 100 := by omega
  clear hm hg h h2
  go_enter Try.func4, Try.ntmps4
  go_wp2_with ((with_reducible refine (c0 _).mono ?_); clear c0; rintro e w1 ⟨rfl, hw1⟩; have hc1 := Tail.cells hw1; have s1 := hw1.size; (try simp at s1); (try have z1_0 : w.heap.size < w1.heap.size := (by omega)); clear s1)
  go_wp2_with ((with_reducible refine (c1 _ (H.out.later (by repeat (first | (with_reducible exact Below.refl _ _) | (with_reducible refine Below.setCell ?_ ?_ _) | (with_reducible refine Below.drew ?_) | (with_reducible refine Below.alloc ?_ ?_ _) | (with_reducible refine Below.trans ?_ (Below.mono hw1 ?_)) | (with_reducible exact hw1.size) | omega | (simp <;> omega) | (simp <;> (have s := hw1.size; omega)) | (have s0 := hw1.size; (try simp at s0); (try simp); omega)))) (K.out.later (by repeat (first | (with_reducible exact Below.refl _ _) | (with_reducible refine Below.setCell ?_ ?_ _) | (with_reducible refine Below.drew ?_) | (with_reducible refine Below.alloc ?_ ?_ _) | (with_reducible refine Below.trans ?_ (Below.mono hw1 ?_)) | (with_reducible exact hw1.size) | omega | (simp <;> omega) | (simp <;> (have s := hw1.size; omega)) | (have s0 := hw1.size; (try simp at s0); (try simp); omega))))).mono ?_); clear c1; rintro e w2 ⟨⟨g2, k2, rfl, hb2⟩, hw2⟩; have hc2 := Tail.cells hw2; have s2 := hw2.size; (try simp at s2); (try have z2_0 : w.heap.size < w2.heap.size := (by omega)); (try have z2_1 : w1.heap.size < w2.heap.size := (by omega)); clear s2; have A2 := Lib.hid hb2; clear hb2)
  go_wp2_with ((with_reducible refine (c2 _ (H.out.later (by repeat (first | (with_reducible exact Below.refl _ _) | (with_reducible refine Below.setCell ?_ ?_ _) | (with_reducible refine Below.drew ?_) | (with_reducible refine Below.alloc ?_ ?_ _) | (with_reducible refine Below.trans ?_ (Below.mono hw1 ?_)) | (with_reducible refine Below.trans ?_ (Below.mono hw2 ?_)) | (with_reducible exact hw1.size) | (with_reducible exact hw2.size) | omega | (simp <;> omega) | (simp <;> (have s := hw1.size; omega)) | (simp <;> (have s := hw2.size; omega)) | (have s0 := hw1.size; (try simp at s0); have s1 := hw2.size; (try simp at s1); (try simp); omega)))) (K.out.later (by repeat (first | (with_reducible exact Below.refl _ _) | (with_reducible refine Below.setCell ?_ ?_ _) | (with_reducible refine Below.drew ?_) | (with_reducible refine Below.alloc ?_ ?_ _) | (with_reducible refine Below.trans ?_ (Below.mono hw1 ?_)) | (with_reducible refine Below.trans ?_ (Below.mono hw2 ?_)) | (with_reducible exact hw1.size) | (with_reducible exact hw2.size) | omega | (simp <;> omega) | (simp <;> (have s := hw1.size; omega)) | (simp <;> (have s := hw2.size; omega)) | (have s0 := hw1.size; (try simp at s0); have s1 := hw2.size; (try simp at s1); (try simp); omega))))).mono ?_); clear c2; rintro e w3 ⟨⟨g3, k3, rfl, hb3⟩, hw3⟩; have hc3 := Tail.cells hw3; have s3 := hw3.size; (try simp at s3); (try have z3_0 : w.heap.size < w3.heap.size := (by omega)); (try have z3_1 : w1.heap.size < w3.heap.size := (by omega)); (try have z3_2 : w2.heap.size < w3.heap.size := (by omega)); clear s3; have A3 := Lib.hid hb3; clear hb3)
  go_wp2_with ((with_reducible refine (s1 _ _ _ _ _ (A2.out.later (by repeat (first | (with_reducible exact Below.refl _ _) | (with_reducible refine Below.setCell ?_ ?_ _) | (with_reducible refine Below.drew ?_) | (with_reducible refine Below.alloc ?_ ?_ _) | (with_reducible refine Below.trans ?_ (Below.mono hw3 ?_)) | (with_reducible exact hw3.size) | omega | (simp <;> omega) | (simp <;> (have s := hw3.size; omega)) | (have s0 := hw3.size; (try simp at s0); (try simp); omega)))) (A3.out.later (by repeat (first | (with_reducible exact Below.refl _ _) | (with_reducible refine Below.setCell ?_ ?_ _) | (with_reducible refine Below.drew ?_) | (with_reducible refine Below.alloc ?_ ?_ _) | omega | (simp <;> omega))))).mono ?_); clear s1; rintro e w4 ⟨rfl, hw4⟩; have hc4 := Tail.cells hw4; have s4 := hw4.size; (try simp at s4); (try have z4_0 : w.heap.size < w4.heap.size := (by omega)); (try have z4_1 : w1.heap.size < w4.heap.size := (by omega)); (try have z4_2 : w2.heap.size < w4.heap.size := (by omega)); (try have z4_3 : w3.heap.size < w4.heap.size := (by omega)); clear s4)
  go_wp2_with ((with_reducible refine (c3 _ _ _ (A2.out.later (by repeat (first | (with_reducible exact Below.refl _ _) | (with_reducible refine Below.setCell ?_ ?_ _) | (with_reducible refine Below.drew ?_) | (with_reducible refine Below.alloc ?_ ?_ _) | (with_reducible refine Below.trans ?_ (Below.mono hw3 ?_)) | (with_reducible refine Below.trans ?_ (Below.mono hw4 ?_)) | (with_reducible exact hw3.size) | (with_reducible exact hw4.size) | omega | (simp <;> omega) | (simp <;> (have s := hw3.size; omega)) | (simp <;> (have s := hw4.size; omega)) | (have s0 := hw3.size; (try simp at s0); have s1 := hw4.size; (try simp at s1); (try simp); omega)))) (K.out.later (by repeat (first | (with_reducible exact Below.refl _ _) | (with_reducible refine Below.setCell ?_ ?_ _) | (with_reducible refine Below.drew ?_) | (with_reducible refine Below.alloc ?_ ?_ _) | (with_reducible refine Below.trans ?_ (Below.mono hw1 ?_)) | (with_reducible refine Below.trans ?_ (Below.mono hw2 ?_)) | (with_reducible refine Below.trans ?_ (Below.mono hw3 ?_)) | (with_reducible refine Below.trans ?_ (Below.mono hw4 ?_)) | (with_reducible exact hw1.size) | (with_reducible exact hw2.size) | (with_reducible exact hw3.size) | (with_reducible exact hw4.size) | omega | (simp <;> omega) | (simp <;> (have s := hw1.size; omega)) | (simp <;> (have s := hw2.size; omega)) | (simp <;> (have s := hw3.size; omega)) | (simp <;> (have s := hw4.size; omega)) | (have s0 := hw1.size; (try simp at s0); have s1 := hw2.size; (try simp at s1); have s2 := hw3.size; (try simp at s2); have s3 := hw4.size; (try simp at s3); (try simp); omega))))).mono ?_); clear c3; rintro e w5 ⟨⟨g5, k5, rfl, hb5⟩, hw5⟩; have hc5 := Tail.cells hw5; have s5 := hw5.size; (try simp at s5); (try have z5_0 : w.heap.size < w5.heap.size := (by omega)); (try have z5_1 : w1.heap.size < w5.heap.size := (by omega)); (try have z5_2 : w2.heap.size < w5.heap.size := (by omega)); (try have z5_3 : w3.heap.size < w5.heap.size := (by omega)); (try have z5_4 : w4.heap.size < w5.heap.size := (by omega)); clear s5; have A5 := Lib.hid hb5; clear hb5)
  go_wp2_with ((with_reducible refine (c4 _ _ _ _ _ (A2.out.later (by repeat (first | (with_reducible exact Below.refl _ _) | (with_reducible refine Below.setCell ?_ ?_ _) | (with_reducible refine Below.drew ?_) | (with_reducible refine Below.alloc ?_ ?_ _) | (with_reducible refine Below.trans ?_ (Below.mono hw3 ?_)) | (with_reducible refine Below.trans ?_ (Below.mono hw4 ?_)) | (with_reducible refine Below.trans ?_ (Below.mono hw5 ?_)) | (with_reducible exact hw3.size) | (with_reducible exact hw4.size) | (with_reducible exact hw5.size) | omega | (simp <;> omega) | (simp <;> (have s := hw3.size; omega)) | (simp <;> (have s := hw4.size; omega)) | (simp <;> (have s := hw5.size; omega)) | (have s0 := hw3.size; (try simp at s0); have s1 := hw4.size; (try simp at s1); have s2 := hw5.size; (try simp at s2); (try simp); omega)))) (A5.out.later (by repeat (first | (with_reducible exact Below.refl _ _) | (with_reducible refine Below.setCell ?_ ?_ _) | (with_reducible refine Below.drew ?_) | (with_reducible refine Below.alloc ?_ ?_ _) | omega | (simp <;> omega))))).mono ?_); clear c4; rintro e w6 ⟨⟨g6, k6, rfl, hb6⟩, hw6⟩; have hc6 := Tail.cells hw6; have s6 := hw6.size; (try simp at s6); (try have z6_0 : w.heap.size < w6.heap.size := (by omega)); (try have z6_1 : w1.heap.size < w6.heap.size := (by omega)); (try have z6_2 : w2.heap.size < w6.heap.size := (by omega)); (try have z6_3 : w3.heap.size < w6.heap.size := (by omega)); (try have z6_4 : w4.heap.size < w6.heap.size := (by omega)); (try have z6_5 : w5.heap.size < w6.heap.size := (by omega)); clear s6; have A6 := Lib.hid hb6; clear hb6)
  go_wp2_with ((with_reducible refine (s2 _ _ _ (A6.out.later (by repeat (first | (with_reducible exact Below.refl _ _) | (with_reducible refine Below.setCell ?_ ?_ _) | (with_reducible refine Below.drew ?_) | (with_reducible refine Below.alloc ?_ ?_ _) | omega | (simp <;> omega)))) (H.out.later (by repeat (first | (with_reducible exact Below.refl _ _) | (with_reducible refine Below.setCell ?_ ?_ _) | (with_reducible refine Below.drew ?_) | (with_reducible refine Below.alloc ?_ ?_ _) | (with_reducible refine Below.trans ?_ (Below.mono hw1 ?_)) | (with_reducible refine Below.trans ?_ (Below.mono hw2 ?_)) | (with_reducible refine Below.trans ?_ (Below.mono hw3 ?_)) | (with_reducible refine Below.trans ?_ (Below.mono hw4 ?_)) | (with_reducible refine Below.trans ?_ (Below.mono hw5 ?_)) | (with_reducible refine Below.trans ?_ (Below.mono hw6 ?_)) | (with_reducible exact hw1.size) | (with_reducible exact hw2.size) | (with_reducible exact hw3.size) | (with_reducible exact hw4.size) | (with_reducible exact hw5.size) | (with_reducible exact hw6.size) | omega | (simp <;> omega) | (simp <;> (have s := hw1.size; omega)) | (simp <;> (have s := hw2.size; omega)) | (simp <;> (have s := hw3.size; omega)) | (simp <;> (have s := hw4.size; omega)) | (simp <;> (have s := hw5.size; omega)) | (simp <;> (have s := hw6.size; omega)) | (have s0 := hw1.size; (try simp at s0); have s1 := hw2.size; (try simp at s1); have s2 := hw3.size; (try simp at s2); have s3 := hw4.size; (try simp at s3); have s4 := hw5.size; (try simp at s4); have s5 := hw6.size; (try simp at s5); (try simp); omega))))).mono ?_); clear s2; rintro e w7 ⟨rfl, hw7⟩; have hc7 := Tail.cells hw7; have s7 := hw7.size; (try simp at s7); (try have z7_0 : w.heap.size < w7.heap.size := (by omega)); (try have z7_1 : w1.heap.size < w7.heap.size := (by omega)); (try have z7_2 : w2.heap.size < w7.heap.size := (by omega)); (try have z7_3 : w3.heap.size < w7.heap.size := (by omega)); (try have z7_4 : w4.heap.size < w7.heap.size := (by omega)); (try have z7_5 : w5.heap.size < w7.heap.size := (by omega)); (try have z7_6 : w6.heap.size < w7.heap.size := (by omega)); clear s7)
  go_wp2_with ((with_reducible refine (kn _).mono ?_); rintro e w8 ⟨rfl, hw8⟩; have hc8 := Tail.cells hw8; have s8 := hw8.size; (try simp at s8); (try have z8_0 : w.heap.size < w8.heap.size := (by omega)); (try have z8_1 : w1.heap.size < w8.heap.size := (by omega)); (try have z8_2 : w2.heap.size < w8.heap.size := (by omega)); (try have z8_3 : w3.heap.size < w8.heap.size := (by omega)); (try have z8_4 : w4.heap.size < w8.heap.size := (by omega)); (try have z8_5 : w5.heap.size < w8.heap.size := (by omega)); (try have z8_6 : w6.heap.size < w8.heap.size := (by omega)); (try have z8_7 : w7.heap.size < w8.heap.size := (by omega)); clear s8)
  go_ret
  exact ⟨rfl, by repeat (first | (with_reducible exact Below.refl _ _) | (with_reducible refine Below.setCell ?_ ?_ _) | (with_reducible refine Below.drew ?_) | (with_reducible refine Below.alloc ?_ ?_ _) | (with_reducible refine Below.trans ?_ (Below.mono hw8 ?_)) | (with_reducible refine Below.trans ?_ (Below.mono hw7 ?_)) | (with_reducible refine Below.trans ?_ (Below.mono hw6 ?_)) | (with_reducible refine Below.trans ?_ (Below.mono hw5 ?_)) | (with_reducible refine Below.trans ?_ (Below.mono hw4 ?_)) | (with_reducible refine Below.trans ?_ (Below.mono hw3 ?_)) | (with_reducible refine Below.trans ?_ (Below.mono hw2 ?_)) | (with_reducible refine Below.trans ?_ (Below.mono hw1 ?_)) | (with_reducible exact hw8.size) | (with_reducible exact hw7.size) | (with_reducible exact hw6.size) | (with_reducible exact hw5.size) | (with_reducible exact hw4.size) | (with_reducible exact hw3.size) | (with_reducible exact hw2.size) | (with_reducible exact hw1.size) | omega | (simp <;> omega) | (simp <;> (have s := hw8.size; omega)) | (simp <;> (have s := hw7.size; omega)) | (simp <;> (have s := hw6.size; omega)) | (simp <;> (have s := hw5.size; omega)) | (simp <;> (have s := hw4.size; omega)) | (simp <;> (have s := hw3.size; omega)) | (simp <;> (have s := hw2.size; omega)) | (simp <;> (have s := hw1.size; omega)) | (have s0 := hw8.size; (try simp at s0); have s1 := hw7.size; (try simp at s1); have s2 := hw6.size; (try simp at s2); have s3 := hw5.size; (try simp at s3); have s4 := hw4.size; (try simp at s4); have s5 := hw3.size; (try simp at s5); have s6 := hw2.size; (try simp at s6); have s7 := hw1.size; (try simp at s7); (try simp); omega))⟩
theorem gaugeTransforms_walk (a b c : Int) (ao : Option Addr) (L : List Q) (cap : Nat) (go : Option Addr) (G : List Q) (gc : Nat) (w : World) (_ : L.length ≤ maxLen) (hm : LiesO w ao L) (_ : G.length ≤ maxLen) (hg : LiesO w go G) : Calls Try.prog 4 #[.agg #[.int .i64 a, .int .i64 b, .int .i64 c, .slice ao L.length cap], .slice go G.length gc] w fun e w' => e = .returned (.bool true) ∧ Below w.heap.size w w' := by
  by_cases h : 200 < L.length
  · exact gTr_long a b c ao go cap gc L G w h
  · by_cases h2 : 100 < G.length
    · exact gTr_many a b c ao go cap gc L G w (by omega) h2
    · rcases tr_ans a b c ao go cap gc L G (by omega) (by omega) with ⟨r, h0, k1, k2⟩ | ⟨hr, hl⟩
      · exact gTr_err a b c r ao go cap gc L G w (by omega) (by omega) hm hg h0 k1 k2
      · have hF := gaR_Fl hr
        have hG := gaR_Gg hr
        have hp := fld_pos (gaR_ok hr).1
        have hgp : 0 < G.length := by have := hG.n; omega
        have hT := gaR_mk (tf_fldR hF hG hl) (tf_Gg hG)
        have hB := gaR_mk (tf_fldR hF hG hl) (bar_Gg (tf_Gg hG))
        have hl2 : Lim (tfL a b c (tfL a b c L G) (G.map bar)) := by rw [tf_tf hF hG]; exact Fl_lim hF
        refine gTr_ok a b c ao go cap gc L G w (by omega) (by omega) hm hg (tfL a b c L G) (G.map bar) ?_ ?_ ?_ ?_ ?_ ?_
        · intro W l1 l2
          obtain ⟨b1, o1, rfl, m1⟩ := liesO_some l1 hp
          obtain ⟨b2, o2, rfl, m2⟩ := liesO_some l2 hgp
          exact gaT_lim a b c b1 o1 b2 o2 cap gc L G W m1 m2 hr hl
        · intro W l1 l2
          obtain ⟨b1, o1, rfl, m1⟩ := liesO_some l1 hp
          obtain ⟨b2, o2, rfl, m2⟩ := liesO_some l2 hgp
          exact refGaT_lim a b c b1 o1 b2 o2 cap gc L G W m1 m2 hr hl
        · intro W g k g' k' l1 l2
          have := sameF4_any a b c (some ⟨g, 0, none⟩) (some ⟨g', 0, none⟩) k k' (tfL a b c L G) W (.inr ⟨g, 0, rfl, l1.h⟩) (.inr ⟨g', 0, rfl, l2.h⟩) (by rw [tfL_len]; omega)
          rw [tfL_len] at this
          exact this
        · intro W g k l1 l2
          obtain ⟨b2, o2, rfl, m2⟩ := liesO_some l2 hgp
          have := gaInv_ok a b c (some ⟨g, 0, none⟩) b2 o2 k gc (tfL a b c L G) G W (.inr ⟨g, 0, rfl, l1.h⟩) m2 hT (by rw [tfL_len]; omega) (by omega) hgp
          rw [tfL_len] at this
          exact this.mono fun e w' ⟨⟨g', k', e1, e2, _⟩, hw⟩ => ⟨⟨g', k', e1, e2⟩, hw⟩
        · intro W g k g' k' l1 l2
          have := gaT_lim a b c g 0 g' 0 k k' (tfL a b c L G) (G.map bar) W l1.h l2.h hB hl2
          rw [tfL_len, List.length_map, tf_tf hF hG] at this
          exact this
        · intro W g k l1 l2
          exact sameF4_any a b c (some ⟨g, 0, none⟩) ao k cap L W (.inr ⟨g, 0, rfl, l1.h⟩) l2 (by omega)

/-! ### The statement of the law GaugeTransforms, out of its walk -/
set_option maxRecDepth 100000 in
theorem gaugeTransforms_lifted (os : Os) (started : os.Started) (H : Type) (enc : TypeId × Value → H) :
    ReturnsInHanded {} Try.checked os 4 .any (Rows.gaugeTransformsSpec.pre6 enc Try.prog Try.f4 Rows.gaugeTransformsRow.domain false) (Rows.gaugeTransformsSpec.post enc Try.prog Try.f4 false true false false) := by
  refine returnsInHanded_of_change (C := Try.checked) own started (by kernel_rfl) Try.func4
    (ChangeSpec.witness6 (enc := enc) (C := Try.checked) false ⟨#[], #[.agg #[.int .i64 0, .int .i64 0, .int .i64 0, .slice none 0 0], .slice none 0 0], []⟩ 8 (by kernel_rfl) (by kernel_rfl) (by kernel_rfl) (by kernel_rfl)) ?_
  intro W base args ds gs before hval0 hW hcnd _
  have hval : ∀ (j : Nat) t v, Try.f4.params[j]? = some t → args[j]? = some v → Value.okWide Try.prog W .any base t v := hval0
  have hW' := hW
  obtain ⟨p, q, hA0, hV, rfl, hfz, hnd⟩ := hW
  have hA : DataW.TrodAll enc Try.prog W 0 (fun _ => true) true Try.f4.params.toList args.toList ds p := hA0
  rw [Try.params4] at hA hval
  obtain ⟨v0, vs0, d0, ds0, p0, q0, hargs, rfl, rfl, h0, r0⟩ := trodAll_cons hA
  obtain ⟨v1, vs1, d1, ds1, p1, q1, rfl, rfl, rfl, h1, r1⟩ := trodAll_cons r0
  obtain ⟨rfl, rfl, rfl⟩ := trodAll_nil r1
  obtain rfl : args = #[v0, v1] := by cases args; simp_all
  obtain ⟨rfl, rfl⟩ := trodVars_none hV
  have k0 := h0
  have lt0 : ∀ x ∈ p0, x.block < W.heap.size := by obtain ⟨m, hm⟩ := k0; exact DataW.trod_lt m _ _ _ hm
  obtain ⟨x0, y0, z0, ao0, L0, cap0, rfl, hl0, hm0⟩ := open_field (hval 0 25 v0 rfl rfl) h0
  have k1 := h1
  have lt1 : ∀ x ∈ p1, x.block < W.heap.size := by obtain ⟨m, hm⟩ := k1; exact DataW.trod_lt m _ _ _ hm
  obtain ⟨ao1, L1, cap1, rfl, hl1, hm1⟩ := open_units (hval 1 23 v1 rfl rfl) h1
  clear hA0 hval0
  refine (gaugeTransforms_walk x0 y0 z0 ao0 L0 cap0 ao1 L1 cap1 W hl0 hm0 hl1 hm1).mono fun e W' ⟨he, bel⟩ => ?_
  subst he
  exact ⟨_, rfl, _, _, _, [], _, [], hW', trodAll_mk1 (shut_bool Try.underlying4 _), (trodAll_cons_mk (Below.trod laidOut (by kernel_rfl) (of_decide_eq_true (by kernel_rfl)) k0 bel lt0) (trodAll_cons_mk (Below.trod laidOut (by kernel_rfl) (of_decide_eq_true (by kernel_rfl)) k1 bel lt1) trodAll_mk0)), rfl, bel.frame _, fun h => by cases h⟩

theorem gaugeTransforms_jf9 : (Rows.gaugeTransformsRow.inPlace == Try.prog.inPlace 4) = true := by kernel_rfl
theorem gaugeTransforms_jf10 : (Rows.gaugeTransformsRow.unfollowed == Try.prog.unfollowed 4) = true := by kernel_rfl
theorem gaugeTransforms_jf11 : (Rows.gaugeTransformsRow.recurses == Try.prog.recurses 4) = true := by kernel_rfl
theorem gaugeTransforms_jf12 : (Rows.gaugeTransformsRow.named == Try.prog.varsNamed 4) = true := by kernel_rfl
theorem gaugeTransforms_facts : joinedFacts Try.prog 4 Try.f4 Rows.gaugeTransformsSpec Rows.gaugeTransformsRow = true := by
  unfold joinedFacts
  exact (band (band (band (band (band (band (band (band (band (band (band (band (band (band (band (band (band (band (band (band (band (band (band (band (band (band (band (band (band (band (band (by kernel_rfl) jf1) jf2) (by kernel_rfl)) (by kernel_rfl)) (by kernel_rfl)) jf6) (by kernel_rfl)) jf8) gaugeTransforms_jf9) gaugeTransforms_jf10) gaugeTransforms_jf11) gaugeTransforms_jf12) (by kernel_rfl)) (by kernel_rfl)) (by kernel_rfl)) (by kernel_rfl)) (by kernel_rfl)) (by kernel_rfl)) (by kernel_rfl)) (by kernel_rfl)) (by kernel_rfl)) (by kernel_rfl)) (by kernel_rfl)) jf24) jf25) jf26) jf27) (by kernel_rfl)) (by kernel_rfl)) (by kernel_rfl)) (by kernel_rfl))

theorem gaugeTransforms_over : Rows.gaugeTransformsRow.holds Try.pinned (OpenSpec.ofChange Rows.gaugeTransformsSpec) :=
  OpenClaim.holds_of_wide 4 Try.f4 rfl rfl rfl rfl rfl rfl rfl ⟨rfl, rfl, rfl, rfl, rfl⟩ rfl rfl rfl rfl rfl (by kernel_rfl) Try.func4 gaugeTransforms_facts
    (of_decide_eq_true (by kernel_rfl)) (by unfold Func.isWrapper; first | (rw [if_pos (by decide +kernel)]; kernel_rfl) | (rw [if_neg (by decide +kernel)]; exact ⟨rfl, rfl⟩))
    (fun os started H enc _ => gaugeTransforms_lifted os started H enc)

theorem gaugeTransforms_holds : Rows.GaugeTransformsSaid := gaugeTransforms_over
#print axioms gaugeTransforms_holds

end Go.Proofs.Ytegeamfacajeeaa
