/- GaugeFixes: the fixed field is what the document says, its loops are those of the field and its links in the tree are 1, for all fields.
Conditions: none. -/
import Derived.Test.YtegeamfacajeeaaGvM
import Derived.Test.YtegeamfacajeeaaGauE
import Derived.Test.YtegeamfacajeeaaSameU4
import Derived.Test.YtegeamfacajeeaaOpen4
import Derived.Test.YtegeamfacajeeaaJFacts
namespace Go.Proofs.Ytegeamfacajeeaa
set_option linter.unusedVariables false
set_option linter.unusedSimpArgs false
set_option maxRecDepth 1000000
open Go.ChangeShapes Go.WideShapes Go.ChangeAt Go.RowKit
open Um Tm

/-- a field and no error are answered -/
def RetTr (a b c : Int) (n : Nat) (T : List Q) (e : Ending) (w' : World) : Prop := ∃ g k : Nat, e = .returned (.tuple #[.agg #[.int .i64 a, .int .i64 b, .int .i64 c, .slice (some ⟨g, 0, none⟩) n k], .int .i64 0]) ∧ LBox w' g T
set_option maxHeartbeats 3200000 in
theorem gFi_long (a b c : Int) (ao : Option Addr) (cap : Nat) (L : List Q) (w : World) (h : 200 < L.length) : Calls Try.prog 8 #[.agg #[.int .i64 a, .int .i64 b, .int .i64 c, .slice ao L.length cap]] w fun e w' => e = .returned (.bool true) ∧ Below w.heap.size w w' := by
  have kn := sane4_any
  have c0 := fun W : World => long4_any a b c ao cap L true W (.inl ⟨h, rfl⟩)
  go_enter Try.func8, Try.ntmps8
  go_wp2_with ((with_reducible refine (c0 _).mono ?_); clear c0; rintro e w1 ⟨rfl, hw1⟩; have hc1 := Tail.cells hw1; have s1 := hw1.size; (try simp at s1); (try have z1_0 : w.heap.size < w1.heap.size := (by omega)); clear s1)
  go_wp2_with ((with_reducible refine (kn _).mono ?_); rintro e w2 ⟨rfl, hw2⟩; have hc2 := Tail.cells hw2; have s2 := hw2.size; (try simp at s2); (try have z2_0 : w.heap.size < w2.heap.size := (by omega)); (try have z2_1 : w1.heap.size < w2.heap.size := (by omega)); clear s2)
  go_ret
  exact ⟨rfl, by repeat (first | (with_reducible exact Below.refl _ _) | (with_reducible refine Below.setCell ?_ ?_ _) | (with_reducible refine Below.drew ?_) | (with_reducible refine Below.alloc ?_ ?_ _) | (with_reducible refine Below.trans ?_ (Below.mono hw2 ?_)) | (with_reducible refine Below.trans ?_ (Below.mono hw1 ?_)) | (with_reducible exact hw2.size) | (with_reducible exact hw1.size) | omega | (simp <;> omega) | (simp <;> (have s := hw2.size; omega)) | (simp <;> (have s := hw1.size; omega)) | (have s0 := hw2.size; (try simp at s0); have s1 := hw1.size; (try simp at s1); (try simp); omega))⟩
set_option maxHeartbeats 3200000 in
theorem gFi_err (a b c r : Int) (ao : Option Addr) (cap : Nat) (L : List Q) (w : World) (h : L.length ≤ 200) (hm : LiesO w ao L) (h0 : r ≠ 0)
    (c1 : ∀ (W : World), LiesO W ao L → Calls Try.prog 33 #[.agg #[.int .i64 a, .int .i64 b, .int .i64 c, .slice ao L.length cap]] W fun e w' => e = .returned (.tuple #[.agg #[.int .i64 0, .int .i64 0, .int .i64 0, .slice none 0 0], .int .i64 r]) ∧ Below W.heap.size W w')
    (c2 : ∀ (W : World), LiesO W ao L → Calls Try.prog 34 #[.agg #[.int .i64 a, .int .i64 b, .int .i64 c, .slice ao L.length cap]] W fun e w' => e = .returned (.tuple #[.agg #[.int .i64 0, .int .i64 0, .int .i64 0, .slice none 0 0], .int .i64 r]) ∧ Below W.heap.size W w') : Calls Try.prog 8 #[.agg #[.int .i64 a, .int .i64 b, .int .i64 c, .slice ao L.length cap]] w fun e w' => e = .returned (.bool true) ∧ Below w.heap.size w w' := by
  have kn := sane4_any
  have c0 := fun W : World => long4_any a b c ao cap L false W (.inr ⟨h, rfl⟩)
  have t1 : (r != r) = false := by simp
  have t2 : (r != 0) = true := by simpa using h0
  have sf : ∀ W : World, Calls Try.prog 22 #[.agg #[.int .i64 0, .int .i64 0, .int .i64 0, .slice none 0 0], .agg #[.int .i64 0, .int .i64 0, .int .i64 0, .slice none 0 0]] W fun e w' => e = .returned (.bool true) ∧ Below W.heap.size W w' := fun W => sameF4_any 0 0 0 none none 0 0 [] W (.inl rfl) (.inl rfl) (by simp)
  have H := Lib.hid hm
  clear h0 hm h
  go_enter Try.func8, Try.ntmps8
  go_wp2_with ((with_reducible refine (c0 _).mono ?_); clear c0; rintro e w1 ⟨rfl, hw1⟩; have hc1 := Tail.cells hw1; have s1 := hw1.size; (try simp at s1); (try have z1_0 : w.heap.size < w1.heap.size := (by omega)); clear s1)
  go_wp2_with ((with_reducible refine (c1 _ (H.out.later (by repeat (first | (with_reducible exact Below.refl _ _) | (with_reducible refine Below.setCell ?_ ?_ _) | (with_reducible refine Below.drew ?_) | (with_reducible refine Below.alloc ?_ ?_ _) | (with_reducible refine Below.trans ?_ (Below.mono hw1 ?_)) | (with_reducible exact hw1.size) | omega | (simp <;> omega) | (simp <;> (have s := hw1.size; omega)) | (have s0 := hw1.size; (try simp at s0); (try simp); omega))))).mono ?_); clear c1; rintro e w2 ⟨rfl, hw2⟩; have hc2 := Tail.cells hw2; have s2 := hw2.size; (try simp at s2); (try have z2_0 : w.heap.size < w2.heap.size := (by omega)); (try have z2_1 : w1.heap.size < w2.heap.size := (by omega)); clear s2)
  go_wp2_with ((with_reducible refine (c2 _ (H.out.later (by repeat (first | (with_reducible exact Below.refl _ _) | (with_reducible refine Below.setCell ?_ ?_ _) | (with_reducible refine Below.drew ?_) | (with_reducible refine Below.alloc ?_ ?_ _) | (with_reducible refine Below.trans ?_ (Below.mono hw1 ?_)) | (with_reducible refine Below.trans ?_ (Below.mono hw2 ?_)) | (with_reducible exact hw1.size) | (with_reducible exact hw2.size) | omega | (simp <;> omega) | (simp <;> (have s := hw1.size; omega)) | (simp <;> (have s := hw2.size; omega)) | (have s0 := hw1.size; (try simp at s0); have s1 := hw2.size; (try simp at s1); (try simp); omega))))).mono ?_); clear c2; rintro e w3 ⟨rfl, hw3⟩; have hc3 := Tail.cells hw3; have s3 := hw3.size; (try simp at s3); (try have z3_0 : w.heap.size < w3.heap.size := (by omega)); (try have z3_1 : w1.heap.size < w3.heap.size := (by omega)); (try have z3_2 : w2.heap.size < w3.heap.size := (by omega)); clear s3)
  go_wp2_with ((with_reducible refine (sf _).mono ?_); clear sf; rintro e w4 ⟨rfl, hw4⟩; have hc4 := Tail.cells hw4; have s4 := hw4.size; (try simp at s4); (try have z4_0 : w.heap.size < w4.heap.size := (by omega)); (try have z4_1 : w1.heap.size < w4.heap.size := (by omega)); (try have z4_2 : w2.heap.size < w4.heap.size := (by omega)); (try have z4_3 : w3.heap.size < w4.heap.size := (by omega)); clear s4)
  go_wp2_with ((with_reducible refine (kn _).mono ?_); rintro e w5 ⟨rfl, hw5⟩; have hc5 := Tail.cells hw5; have s5 := hw5.size; (try simp at s5); (try have z5_0 : w.heap.size < w5.heap.size := (by omega)); (try have z5_1 : w1.heap.size < w5.heap.size := (by omega)); (try have z5_2 : w2.heap.size < w5.heap.size := (by omega)); (try have z5_3 : w3.heap.size < w5.heap.size := (by omega)); (try have z5_4 : w4.heap.size < w5.heap.size := (by omega)); clear s5)
  go_ret
  exact ⟨rfl, by repeat (first | (with_reducible exact Below.refl _ _) | (with_reducible refine Below.setCell ?_ ?_ _) | (with_reducible refine Below.drew ?_) | (with_reducible refine Below.alloc ?_ ?_ _) | (with_reducible refine Below.trans ?_ (Below.mono hw5 ?_)) | (with_reducible refine Below.trans ?_ (Below.mono hw4 ?_)) | (with_reducible refine Below.trans ?_ (Below.mono hw3 ?_)) | (with_reducible refine Below.trans ?_ (Below.mono hw2 ?_)) | (with_reducible refine Below.trans ?_ (Below.mono hw1 ?_)) | (with_reducible exact hw5.size) | (with_reducible exact hw4.size) | (with_reducible exact hw3.size) | (with_reducible exact hw2.size) | (with_reducible exact hw1.size) | omega | (simp <;> omega) | (simp <;> (have s := hw5.size; omega)) | (simp <;> (have s := hw4.size; omega)) | (simp <;> (have s := hw3.size; omega)) | (simp <;> (have s := hw2.size; omega)) | (simp <;> (have s := hw1.size; omega)) | (have s0 := hw5.size; (try simp at s0); have s1 := hw4.size; (try simp at s1); have s2 := hw3.size; (try simp at s2); have s3 := hw2.size; (try simp at s3); have s4 := hw1.size; (try simp at s4); (try simp); omega))⟩
set_option maxHeartbeats 12800000 in
theorem gFi_ok (a b c : Int) (ao : Option Addr) (cap : Nat) (L : List Q) (w : World) (T lp : List Q) (tr : List Int) (h : L.length ≤ 200) (hT : ∀ k ∈ tr, ∃ K : Nat, k = (K : Int) ∧ K < L.length ∧ T[K]? = some one) (hn : tr.length * 3 + 3 = L.length) (hm : LiesO w ao L)
    (c1 : ∀ (W : World), LiesO W ao L → Calls Try.prog 33 #[.agg #[.int .i64 a, .int .i64 b, .int .i64 c, .slice ao L.length cap]] W fun e w' => RetTr a b c L.length T e w' ∧ Below W.heap.size W w')
    (c2 : ∀ (W : World), LiesO W ao L → Calls Try.prog 34 #[.agg #[.int .i64 a, .int .i64 b, .int .i64 c, .slice ao L.length cap]] W fun e w' => RetTr a b c L.length T e w' ∧ Below W.heap.size W w')
    (s1 : ∀ (W : World) (g k g' k' : Nat), LBox W g T → LBox W g' T → Calls Try.prog 22 #[.agg #[.int .i64 a, .int .i64 b, .int .i64 c, .slice (some ⟨g, 0, none⟩) L.length k], .agg #[.int .i64 a, .int .i64 b, .int .i64 c, .slice (some ⟨g', 0, none⟩) L.length k']] W fun e w' => e = .returned (.bool true) ∧ Below W.heap.size W w')
    (c3 : ∀ (W : World), LiesO W ao L → Calls Try.prog 31 #[.agg #[.int .i64 a, .int .i64 b, .int .i64 c, .slice ao L.length cap]] W fun e w' => (∃ (o : Option Addr) (k : Nat), e = .returned (.tuple #[.slice o lp.length k, .int .i64 0]) ∧ LiesO w' o lp) ∧ Below W.heap.size W w')
    (c4 : ∀ (W : World) (g k : Nat), LBox W g T → Calls Try.prog 31 #[.agg #[.int .i64 a, .int .i64 b, .int .i64 c, .slice (some ⟨g, 0, none⟩) L.length k]] W fun e w' => (∃ (o : Option Addr) (k : Nat), e = .returned (.tuple #[.slice o lp.length k, .int .i64 0]) ∧ LiesO w' o lp) ∧ Below W.heap.size W w')
    (c5 : ∀ (W : World), Calls Try.prog 35 #[.agg #[.int .i64 a, .int .i64 b, .int .i64 c]] W fun e w' => (∃ (o : Option Addr) (k : Nat), e = .returned (.tuple #[.slice o tr.length k, .int .i64 0]) ∧ LiesOI w' o tr) ∧ Below W.heap.size W w')
    (s2 : ∀ (W : World) (o o' : Option Addr) (k k' : Nat), LiesO W o lp → LiesO W o' lp → Calls Try.prog 19 #[(.slice o lp.length k), (.slice o' lp.length k')] W fun e w' => e = .returned (.bool true) ∧ Below W.heap.size W w') : Calls Try.prog 8 #[.agg #[.int .i64 a, .int .i64 b, .int .i64 c, .slice ao L.length cap]] w fun e w' => e = .returned (.bool true) ∧ Below w.heap.size w w' := by
  have kn := sane4_any
  have c0 := fun W : World => long4_any a b c ao cap L false W (.inr ⟨h, rfl⟩)
  have H := Lib.hid hm
  have HT := Lib.hid hT
  have hl : tr.length ≤ 100 := by omega
  have e1 : IntKind.i64.wrap ((tr.length : Int) * 3) = (tr.length : Int) * 3 := IntWalk.i64_in _ (by omega)
  have e2 : IntKind.i64.wrap ((tr.length : Int) * 3 + 3) = (L.length : Int) := by rw [IntWalk.i64_in _ (by omega)]; omega
  clear hm h hT hn
  go_enter Try.func8, Try.ntmps8
  go_wp2_with ((with_reducible refine (c0 _).mono ?_); clear c0; rintro e w1 ⟨rfl, hw1⟩; have hc1 := Tail.cells hw1; have s1 := hw1.size; (try simp at s1); (try have z1_0 : w.heap.size < w1.heap.size := (by omega)); clear s1)
  go_wp2_with ((with_reducible refine (c1 _ (H.out.later (by repeat (first | (with_reducible exact Below.refl _ _) | (with_reducible refine Below.setCell ?_ ?_ _) | (with_reducible refine Below.drew ?_) | (with_reducible refine Below.alloc ?_ ?_ _) | (with_reducible refine Below.trans ?_ (Below.mono hw1 ?_)) | (with_reducible exact hw1.size) | omega | (simp <;> omega) | (simp <;> (have s := hw1.size; omega)) | (have s0 := hw1.size; (try simp at s0); (try simp); omega))))).mono ?_); clear c1; rintro e w2 ⟨⟨g2, k2, rfl, hb2⟩, hw2⟩; have hc2 := Tail.cells hw2; have s2 := hw2.size; (try simp at s2); (try have z2_0 : w.heap.size < w2.heap.size := (by omega)); (try have z2_1 : w1.heap.size < w2.heap.size := (by omega)); clear s2; have A2 := Lib.hid hb2; clear hb2)
  go_wp2_with ((with_reducible refine (c2 _ (H.out.later (by repeat (first | (with_reducible exact Below.refl _ _) | (with_reducible refine Below.setCell ?_ ?_ _) | (with_reducible refine Below.drew ?_) | (with_reducible refine Below.alloc ?_ ?_ _) | (with_reducible refine Below.trans ?_ (Below.mono hw1 ?_)) | (with_reducible refine Below.trans ?_ (Below.mono hw2 ?_)) | (with_reducible exact hw1.size) | (with_reducible exact hw2.size) | omega | (simp <;> omega) | (simp <;> (have s := hw1.size; omega)) | (simp <;> (have s := hw2.size; omega)) | (have s0 := hw1.size; (try simp at s0); have s1 := hw2.size; (try simp at s1); (try simp); omega))))).mono ?_); clear c2; rintro e w3 ⟨⟨g3, k3, rfl, hb3⟩, hw3⟩; have hc3 := Tail.cells hw3; have s3 := hw3.size; (try simp at s3); (try have z3_0 : w.heap.size < w3.heap.size := (by omega)); (try have z3_1 : w1.heap.size < w3.heap.size := (by omega)); (try have z3_2 : w2.heap.size < w3.heap.size := (by omega)); clear s3; have A3 := Lib.hid hb3; clear hb3; have FA := Lib.hid (FW.later FW.n1 hw3))
  go_wp2_with ((with_reducible refine (s1 _ _ _ _ _ (A2.out.later (by repeat (first | (with_reducible exact Below.refl _ _) | (with_reducible refine Below.setCell ?_ ?_ _) | (with_reducible refine Below.drew ?_) | (with_reducible refine Below.alloc ?_ ?_ _) | (with_reducible refine Below.trans ?_ (Below.mono hw3 ?_)) | (with_reducible exact hw3.size) | omega | (simp <;> omega) | (simp <;> (have s := hw3.size; omega)) | (have s0 := hw3.size; (try simp at s0); (try simp); omega)))) (A3.out.later (by repeat (first | (with_reducible exact Below.refl _ _) | (with_reducible refine Below.setCell ?_ ?_ _) | (with_reducible refine Below.drew ?_) | (with_reducible refine Below.alloc ?_ ?_ _) | omega | (simp <;> omega))))).mono ?_); clear s1; rintro e w4 ⟨rfl, hw4⟩; have hc4 := Tail.cells hw4; have s4 := hw4.size; (try simp at s4); (try have z4_0 : w.heap.size < w4.heap.size := (by omega)); (try have z4_1 : w1.heap.size < w4.heap.size := (by omega)); (try have z4_2 : w2.heap.size < w4.heap.size := (by omega)); (try have z4_3 : w3.heap.size < w4.heap.size := (by omega)); clear s4)
  go_wp2_with ((with_reducible refine (c3 _ (H.out.later (by repeat (first | (with_reducible exact Below.refl _ _) | (with_reducible refine Below.setCell ?_ ?_ _) | (with_reducible refine Below.drew ?_) | (with_reducible refine Below.alloc ?_ ?_ _) | (with_reducible refine Below.trans ?_ (Below.mono hw1 ?_)) | (with_reducible refine Below.trans ?_ (Below.mono hw2 ?_)) | (with_reducible refine Below.trans ?_ (Below.mono hw3 ?_)) | (with_reducible refine Below.trans ?_ (Below.mono hw4 ?_)) | (with_reducible exact hw1.size) | (with_reducible exact hw2.size) | (with_reducible exact hw3.size) | (with_reducible exact hw4.size) | omega | (simp <;> omega) | (simp <;> (have s := hw1.size; omega)) | (simp <;> (have s := hw2.size; omega)) | (simp <;> (have s := hw3.size; omega)) | (simp <;> (have s := hw4.size; omega)) | (have s0 := hw1.size; (try simp at s0); have s1 := hw2.size; (try simp at s1); have s2 := hw3.size; (try simp at s2); have s3 := hw4.size; (try simp at s3); (try simp); omega))))).mono ?_); clear c3; rintro e w5 ⟨⟨o5, k5, rfl, hb5⟩, hw5⟩; have hc5 := Tail.cells hw5; have s5 := hw5.size; (try simp at s5); (try have z5_0 : w.heap.size < w5.heap.size := (by omega)); (try have z5_1 : w1.heap.size < w5.heap.size := (by omega)); (try have z5_2 : w2.heap.size < w5.heap.size := (by omega)); (try have z5_3 : w3.heap.size < w5.heap.size := (by omega)); (try have z5_4 : w4.heap.size < w5.heap.size := (by omega)); clear s5; have A5 := Lib.hid hb5; clear hb5)
  go_wp2_with ((with_reducible refine (c4 _ _ _ (A2.out.later (by repeat (first | (with_reducible exact Below.refl _ _) | (with_reducible refine Below.setCell ?_ ?_ _) | (with_reducible refine Below.drew ?_) | (with_reducible refine Below.alloc ?_ ?_ _) | (with_reducible refine Below.trans ?_ (Below.mono hw3 ?_)) | (with_reducible refine Below.trans ?_ (Below.mono hw4 ?_)) | (with_reducible refine Below.trans ?_ (Below.mono hw5 ?_)) | (with_reducible exact hw3.size) | (with_reducible exact hw4.size) | (with_reducible exact hw5.size) | omega | (simp <;> omega) | (simp <;> (have s := hw3.size; omega)) | (simp <;> (have s := hw4.size; omega)) | (simp <;> (have s := hw5.size; omega)) | (have s0 := hw3.size; (try simp at s0); have s1 := hw4.size; (try simp at s1); have s2 := hw5.size; (try simp at s2); (try simp); omega))))).mono ?_); clear c4; rintro e w6 ⟨⟨o6, k6, rfl, hb6⟩, hw6⟩; have hc6 := Tail.cells hw6; have s6 := hw6.size; (try simp at s6); (try have z6_0 : w.heap.size < w6.heap.size := (by omega)); (try have z6_1 : w1.heap.size < w6.heap.size := (by omega)); (try have z6_2 : w2.heap.size < w6.heap.size := (by omega)); (try have z6_3 : w3.heap.size < w6.heap.size := (by omega)); (try have z6_4 : w4.heap.size < w6.heap.size := (by omega)); (try have z6_5 : w5.heap.size < w6.heap.size := (by omega)); clear s6; have A6 := Lib.hid hb6; clear hb6)
  go_wp2_with ((with_reducible refine (c5 _).mono ?_); clear c5; rintro e w7 ⟨⟨o7, k7, rfl, hb7⟩, hw7⟩; have hc7 := Tail.cells hw7; have s7 := hw7.size; (try simp at s7); (try have z7_0 : w.heap.size < w7.heap.size := (by omega)); (try have z7_1 : w1.heap.size < w7.heap.size := (by omega)); (try have z7_2 : w2.heap.size < w7.heap.size := (by omega)); (try have z7_3 : w3.heap.size < w7.heap.size := (by omega)); (try have z7_4 : w4.heap.size < w7.heap.size := (by omega)); (try have z7_5 : w5.heap.size < w7.heap.size := (by omega)); (try have z7_6 : w6.heap.size < w7.heap.size := (by omega)); clear s7; have A7 := Lib.hid hb7; clear hb7)
  go_wp2_with ((with_reducible refine (s2 _ _ _ _ _ (A5.out.later (by repeat (first | (with_reducible exact Below.refl _ _) | (with_reducible refine Below.setCell ?_ ?_ _) | (with_reducible refine Below.drew ?_) | (with_reducible refine Below.alloc ?_ ?_ _) | (with_reducible refine Below.trans ?_ (Below.mono hw6 ?_)) | (with_reducible refine Below.trans ?_ (Below.mono hw7 ?_)) | (with_reducible exact hw6.size) | (with_reducible exact hw7.size) | omega | (simp <;> omega) | (simp <;> (have s := hw6.size; omega)) | (simp <;> (have s := hw7.size; omega)) | (have s0 := hw6.size; (try simp at s0); have s1 := hw7.size; (try simp at s1); (try simp); omega)))) (A6.out.later (by repeat (first | (with_reducible exact Below.refl _ _) | (with_reducible refine Below.setCell ?_ ?_ _) | (with_reducible refine Below.drew ?_) | (with_reducible refine Below.alloc ?_ ?_ _) | (with_reducible refine Below.trans ?_ (Below.mono hw7 ?_)) | (with_reducible exact hw7.size) | omega | (simp <;> omega) | (simp <;> (have s := hw7.size; omega)) | (have s0 := hw7.size; (try simp at s0); (try simp); omega))))).mono ?_); clear s2; rintro e w8 ⟨rfl, hw8⟩; have hc8 := Tail.cells hw8; have s8 := hw8.size; (try simp at s8); (try have z8_0 : w.heap.size < w8.heap.size := (by omega)); (try have z8_1 : w1.heap.size < w8.heap.size := (by omega)); (try have z8_2 : w2.heap.size < w8.heap.size := (by omega)); (try have z8_3 : w3.heap.size < w8.heap.size := (by omega)); (try have z8_4 : w4.heap.size < w8.heap.size := (by omega)); (try have z8_5 : w5.heap.size < w8.heap.size := (by omega)); (try have z8_6 : w6.heap.size < w8.heap.size := (by omega)); (try have z8_7 : w7.heap.size < w8.heap.size := (by omega)); clear s8)
  have b8 : Below w.heap.size w w8 := by repeat (first | (with_reducible exact Below.refl _ _) | (with_reducible refine Below.setCell ?_ ?_ _) | (with_reducible refine Below.drew ?_) | (with_reducible refine Below.alloc ?_ ?_ _) | (with_reducible refine Below.trans ?_ (Below.mono hw8 ?_)) | (with_reducible refine Below.trans ?_ (Below.mono hw7 ?_)) | (with_reducible refine Below.trans ?_ (Below.mono hw6 ?_)) | (with_reducible refine Below.trans ?_ (Below.mono hw5 ?_)) | (with_reducible refine Below.trans ?_ (Below.mono hw4 ?_)) | (with_reducible refine Below.trans ?_ (Below.mono hw3 ?_)) | (with_reducible refine Below.trans ?_ (Below.mono hw2 ?_)) | (with_reducible refine Below.trans ?_ (Below.mono hw1 ?_)) | (with_reducible exact hw8.size) | (with_reducible exact hw7.size) | (with_reducible exact hw6.size) | (with_reducible exact hw5.size) | (with_reducible exact hw4.size) | (with_reducible exact hw3.size) | (with_reducible exact hw2.size) | (with_reducible exact hw1.size) | omega | (simp <;> omega) | (simp <;> (have s := hw8.size; omega)) | (simp <;> (have s := hw7.size; omega)) | (simp <;> (have s := hw6.size; omega)) | (simp <;> (have s := hw5.size; omega)) | (simp <;> (have s := hw4.size; omega)) | (simp <;> (have s := hw3.size; omega)) | (simp <;> (have s := hw2.size; omega)) | (simp <;> (have s := hw1.size; omega)) | (have s0 := hw8.size; (try simp at s0); have s1 := hw7.size; (try simp at s1); have s2 := hw6.size; (try simp at s2); have s3 := hw5.size; (try simp at s3); have s4 := hw4.size; (try simp at s4); have s5 := hw3.size; (try simp at s5); have s6 := hw2.size; (try simp at s6); have s7 := hw1.size; (try simp at s7); (try simp); omega))
  have F8 := Lib.hid (FA.out.later (show Below w3.heap.size w3 w8 by repeat (first | (with_reducible exact Below.refl _ _) | (with_reducible refine Below.setCell ?_ ?_ _) | (with_reducible refine Below.drew ?_) | (with_reducible refine Below.alloc ?_ ?_ _) | (with_reducible refine Below.trans ?_ (Below.mono hw8 ?_)) | (with_reducible refine Below.trans ?_ (Below.mono hw7 ?_)) | (with_reducible refine Below.trans ?_ (Below.mono hw6 ?_)) | (with_reducible refine Below.trans ?_ (Below.mono hw5 ?_)) | (with_reducible refine Below.trans ?_ (Below.mono hw4 ?_)) | (with_reducible exact hw8.size) | (with_reducible exact hw7.size) | (with_reducible exact hw6.size) | (with_reducible exact hw5.size) | (with_reducible exact hw4.size) | omega | (simp <;> omega) | (simp <;> (have s := hw8.size; omega)) | (simp <;> (have s := hw7.size; omega)) | (simp <;> (have s := hw6.size; omega)) | (simp <;> (have s := hw5.size; omega)) | (simp <;> (have s := hw4.size; omega)) | (have s0 := hw8.size; (try simp at s0); have s1 := hw7.size; (try simp at s1); have s2 := hw6.size; (try simp at s2); have s3 := hw5.size; (try simp at s3); have s4 := hw4.size; (try simp at s4); (try simp); omega))))
  have L8 := Lib.hid (A2.out.later (show Below w2.heap.size w2 w8 by repeat (first | (with_reducible exact Below.refl _ _) | (with_reducible refine Below.setCell ?_ ?_ _) | (with_reducible refine Below.drew ?_) | (with_reducible refine Below.alloc ?_ ?_ _) | (with_reducible refine Below.trans ?_ (Below.mono hw8 ?_)) | (with_reducible refine Below.trans ?_ (Below.mono hw7 ?_)) | (with_reducible refine Below.trans ?_ (Below.mono hw6 ?_)) | (with_reducible refine Below.trans ?_ (Below.mono hw5 ?_)) | (with_reducible refine Below.trans ?_ (Below.mono hw4 ?_)) | (with_reducible refine Below.trans ?_ (Below.mono hw3 ?_)) | (with_reducible exact hw8.size) | (with_reducible exact hw7.size) | (with_reducible exact hw6.size) | (with_reducible exact hw5.size) | (with_reducible exact hw4.size) | (with_reducible exact hw3.size) | omega | (simp <;> omega) | (simp <;> (have s := hw8.size; omega)) | (simp <;> (have s := hw7.size; omega)) | (simp <;> (have s := hw6.size; omega)) | (simp <;> (have s := hw5.size; omega)) | (simp <;> (have s := hw4.size; omega)) | (simp <;> (have s := hw3.size; omega)) | (have s0 := hw8.size; (try simp at s0); have s1 := hw7.size; (try simp at s1); have s2 := hw6.size; (try simp at s2); have s3 := hw5.size; (try simp at s3); have s4 := hw4.size; (try simp at s4); have s5 := hw3.size; (try simp at s5); (try simp); omega))))
  have T8 := Lib.hid (A7.out.later hw8)
  clear hw1 hw2 hw3 hw4 hw5 hw6 hw7 hw8 hc1 hc2 hc3 hc4 hc5 hc6 hc7 hc8 A2 A3 A5 A6 A7 FA H
  generalize w2.heap.size = P at *
  go_wp2
  go_loopw [13] (fun q wr => ∃ k : Nat, k ≤ tr.length ∧ q = .int .i64 k ∧ Below w8.heap.size w8 wr) (fun q _ => tr.length - (intOf q).toNat)
  case atStart => exact ⟨0, by omega, rfl, Below.refl _ _⟩
  case round =>
    obtain ⟨k, hk, rfl, hb⟩ := hrel
    by_cases hlt : k < tr.length
    · have hx := List.getElem?_eq_getElem hlt
      obtain ⟨K, hK, hKl, hTK⟩ := HT.out tr[k] (List.getElem_mem hlt)
      obtain ⟨tb, to, rfl, hti⟩ : ∃ tb to, o7 = some ⟨tb, to, none⟩ ∧ LiesI w8 tb to tr := by
        rcases T8.out with h | h
        · rw [h] at hlt; exact absurd hlt (by simp)
        · exact h
      have x1 := hti.later hb k _ hx
      rw [hK] at x1
      obtain ⟨f0, f1, f2, f3, ff, fl⟩ := F8.out.later hb
      obtain ⟨l0, l1, l2, l3, l4⟩ := (L8.out.later hb).h K _ hTK
      simp only [Nat.zero_add] at l0 l1 l2 l3 l4
      have lb1 := World.block_lt_of_cell? _ _ l0
      have lb2 := World.block_lt_of_cell? _ _ x1
      have qx : ∀ W, Sem.run Try.prog (Op.equalIn 10000 34 (.agg #[.int .i64 one.a, .int .i64 one.b, .int .i64 one.c, .int .i64 one.d, .int .i64 one.n]) (.agg #[.int .i64 one.a, .int .i64 one.b, .int .i64 one.c, .int .i64 one.d, .int .i64 one.n])) W = .ok true W := fun W => by simpa using eqU one one W
      have ik : (k : Int) < (tr.length : Int) := by omega
      have iK : (K : Int) < (L.length : Int) := by omega
      have hbs := hb.size
      clear hx hti hTK hK
      change ∀ W, Sem.run Try.prog (Op.equalIn 10000 34 (.agg #[.int .i64 1, .int .i64 0, .int .i64 0, .int .i64 0, .int .i64 1]) (.agg #[.int .i64 1, .int .i64 0, .int .i64 0, .int .i64 0, .int .i64 1])) W = .ok true W at qx
      change wr.cell? ⟨g2, K * 5, none⟩ = some (.int .i64 1) at l0
      change wr.cell? ⟨g2, K * 5 + 1, none⟩ = some (.int .i64 0) at l1
      change wr.cell? ⟨g2, K * 5 + 2, none⟩ = some (.int .i64 0) at l2
      change wr.cell? ⟨g2, K * 5 + 3, none⟩ = some (.int .i64 0) at l3
      change wr.cell? ⟨g2, K * 5 + 4, none⟩ = some (.int .i64 1) at l4
      go_wp2
      refine Tail.region_below (by kernel_rfl) (by kernel_rfl) ?_
      have kc := @Tail.cell_re
      repeat (go_big_quiet_step (fail))
      refine wpQuiet_nil ?_
      intro w9 hw9
      clear l0 l1 l2 l3 l4 x1 f0 f1 f2 f3 ff fl
      go_wp2
      exact ⟨⟨k + 1, by omega, by go_num, by repeat (first | (with_reducible exact Below.refl _ _) | (with_reducible refine Below.setCell ?_ ?_ _) | (with_reducible refine Below.drew ?_) | (with_reducible refine Below.alloc ?_ ?_ _) | (with_reducible refine Below.trans ?_ (Below.mono hw9 ?_)) | (with_reducible refine Below.trans ?_ (Below.mono hb ?_)) | (with_reducible exact hw9.size) | (with_reducible exact hb.size) | omega | (simp <;> omega) | (simp <;> (have s := hw9.size; omega)) | (simp <;> (have s := hb.size; omega)) | (have s0 := hw9.size; (try simp at s0); have s1 := hb.size; (try simp at s1); (try simp); omega))⟩, by simp [intOf]; omega⟩
    · obtain rfl : k = tr.length := by omega
      go_wp2_with (fail)
      refine (kn _).mono ?_
      rintro e w9 ⟨rfl, hw9⟩
      go_wp2
      go_ret
      exact ⟨rfl, by repeat (first | (with_reducible exact Below.refl _ _) | (with_reducible refine Below.setCell ?_ ?_ _) | (with_reducible refine Below.drew ?_) | (with_reducible refine Below.alloc ?_ ?_ _) | (with_reducible refine Below.trans ?_ (Below.mono hw9 ?_)) | (with_reducible refine Below.trans ?_ (Below.mono hb ?_)) | (with_reducible refine Below.trans ?_ (Below.mono b8 ?_)) | (with_reducible exact hw9.size) | (with_reducible exact hb.size) | (with_reducible exact b8.size) | omega | (simp <;> omega) | (simp <;> (have s := hw9.size; omega)) | (simp <;> (have s := hb.size; omega)) | (simp <;> (have s := b8.size; omega)) | (have s0 := hw9.size; (try simp at s0); have s1 := hb.size; (try simp at s1); have s2 := b8.size; (try simp at s2); (try simp); omega))⟩
theorem gaugeFixes_walk (a b c : Int) (ao : Option Addr) (L : List Q) (cap : Nat) (w : World) (_ : L.length ≤ maxLen) (hm : LiesO w ao L) : Calls Try.prog 8 #[.agg #[.int .i64 a, .int .i64 b, .int .i64 c, .slice ao L.length cap]] w fun e w' => e = .returned (.bool true) ∧ Below w.heap.size w w' := by
  by_cases h : 200 < L.length
  · exact gFi_long a b c ao cap L w h
  obtain ⟨ns, r, hr⟩ := numsR_exG a b c L
  have hl6 : L.length ≤ 1000000 := by omega
  by_cases h0 : r = 0
  · subst h0
    obtain ⟨hf, hS, hF, N, hN⟩ := numsR_okG hr
    have hp := fld_pos hf
    have hn := hF.n
    have hTl := fxL_len a b c N L
    obtain ⟨ns', hs'⟩ := smR_all (fxL_all hF hS hN)
    have hf' := fx_Fl hF hS hN
    have hr' : numsR a b c (fxL a b c N L) ns' 0 := .inr ⟨hf', .inl ⟨hs', rfl⟩⟩
    have ht6 : (lpL a b c N L).length ≤ 1000000 := by
      have := lpK_len (fxL a b c N L) (trL a b c N) L.length
      unfold lpL
      omega
    refine gFi_ok a b c ao cap L w (fxL a b c N L) (lpL a b c N L) (trL a b c N) (by omega) (fun k hk => ?_) ?_ hm ?_ ?_ ?_ ?_ ?_ ?_ ?_
    · obtain ⟨k0, k1⟩ := tr_mem hF.z hN (3 * N) (Nat.le_refl _) k hk
      refine ⟨k.toNat, by omega, by omega, ?_⟩
      rw [← fx_one hF hS hN k hk]
      exact lk_get k0 (by omega)
    · have := (tr_gd hF.z hN).1
      omega
    · intro W l1
      obtain ⟨b1, o1, rfl, m1⟩ := liesO_some l1 hp
      exact (gaFix_ok a b c b1 o1 cap N L ns W m1 hf hS hr hN).mono fun e w' ⟨⟨g, k, he, hl, _⟩, hw⟩ => ⟨⟨g, k, he, hl⟩, hw⟩
    · intro W l1
      obtain ⟨b1, o1, rfl, m1⟩ := liesO_some l1 hp
      exact refFxs_ok a b c b1 o1 cap N L ns W m1 hr hN (by omega)
    · intro W g k g' k' l1 l2
      have := sameF4_any a b c (some ⟨g, 0, none⟩) (some ⟨g', 0, none⟩) k k' (fxL a b c N L) W (.inr ⟨g, 0, rfl, l1.h⟩) (.inr ⟨g', 0, rfl, l2.h⟩) (by omega)
      rw [hTl] at this
      exact this
    · intro W l1
      obtain ⟨b1, o1, rfl, m1⟩ := liesO_some l1 hp
      exact gaLp_ok a b c b1 o1 cap N L ns W m1 hf hS hr hN
    · intro W g k l1
      have := gaLp_ok a b c g 0 k N (fxL a b c N L) ns' W l1.h hf' (fxL_all hF hS hN) hr' hN
      rw [hTl, lp_fx hF hS hN] at this
      exact this
    · exact fun W => gaTree_ok a b c W hF.z N hN
    · exact fun W o o' k k' l1 l2 => sameU4_any o o' k k' (lpL a b c N L) W l1 l2 ht6
  · exact gFi_err a b c r ao cap L w (by omega) hm h0 (fun W l1 => gaFix_bad a b c r ao cap L ns W l1 hr h0 hl6) (fun W l1 => refFx_bad a b c r ao cap L ns W l1 hr h0 hl6)

/-! ### The statement of the law GaugeFixes, out of its walk -/
set_option maxRecDepth 100000 in
theorem gaugeFixes_lifted (os : Os) (started : os.Started) (H : Type) (enc : TypeId × Value → H) :
    ReturnsInHanded {} Try.checked os 8 .any (Rows.gaugeFixesSpec.pre6 enc Try.prog Try.f8 Rows.gaugeFixesRow.domain false) (Rows.gaugeFixesSpec.post enc Try.prog Try.f8 false true false false) := by
  refine returnsInHanded_of_change (C := Try.checked) own started (by kernel_rfl) Try.func8
    (ChangeSpec.witness6 (enc := enc) (C := Try.checked) false ⟨#[], #[.agg #[.int .i64 0, .int .i64 0, .int .i64 0, .slice none 0 0]], []⟩ 8 (by kernel_rfl) (by kernel_rfl) (by kernel_rfl) (by kernel_rfl)) ?_
  intro W base args ds gs before hval0 hW hcnd _
  have hval : ∀ (j : Nat) t v, Try.f8.params[j]? = some t → args[j]? = some v → Value.okWide Try.prog W .any base t v := hval0
  have hW' := hW
  obtain ⟨p, q, hA0, hV, rfl, hfz, hnd⟩ := hW
  have hA : DataW.TrodAll enc Try.prog W 0 (fun _ => true) true Try.f8.params.toList args.toList ds p := hA0
  rw [Try.params8] at hA hval
  obtain ⟨v0, vs0, d0, ds0, p0, q0, hargs, rfl, rfl, h0, r0⟩ := trodAll_cons hA
  obtain ⟨rfl, rfl, rfl⟩ := trodAll_nil r0
  obtain rfl : args = #[v0] := by cases args; simp_all
  obtain ⟨rfl, rfl⟩ := trodVars_none hV
  have k0 := h0
  have lt0 : ∀ x ∈ p0, x.block < W.heap.size := by obtain ⟨m, hm⟩ := k0; exact DataW.trod_lt m _ _ _ hm
  obtain ⟨x0, y0, z0, ao0, L0, cap0, rfl, hl0, hm0⟩ := open_field (hval 0 25 v0 rfl rfl) h0
  clear hA0 hval0
  refine (gaugeFixes_walk x0 y0 z0 ao0 L0 cap0 W hl0 hm0).mono fun e W' ⟨he, bel⟩ => ?_
  subst he
  exact ⟨_, rfl, _, _, _, [], _, [], hW', trodAll_mk1 (shut_bool Try.underlying4 _), (trodAll_cons_mk (Below.trod laidOut (by kernel_rfl) (of_decide_eq_true (by kernel_rfl)) k0 bel lt0) trodAll_mk0), rfl, bel.frame _, fun h => by cases h⟩

theorem gaugeFixes_jf9 : (Rows.gaugeFixesRow.inPlace == Try.prog.inPlace 8) = true := by kernel_rfl
theorem gaugeFixes_jf10 : (Rows.gaugeFixesRow.unfollowed == Try.prog.unfollowed 8) = true := by kernel_rfl
theorem gaugeFixes_jf11 : (Rows.gaugeFixesRow.recurses == Try.prog.recurses 8) = true := by kernel_rfl
theorem gaugeFixes_jf12 : (Rows.gaugeFixesRow.named == Try.prog.varsNamed 8) = true := by kernel_rfl
theorem gaugeFixes_facts : joinedFacts Try.prog 8 Try.f8 Rows.gaugeFixesSpec Rows.gaugeFixesRow = true := by
  unfold joinedFacts
  exact (band (band (band (band (band (band (band (band (band (band (band (band (band (band (band (band (band (band (band (band (band (band (band (band (band (band (band (band (band (band (band (by kernel_rfl) jf1) jf2) (by kernel_rfl)) (by kernel_rfl)) (by kernel_rfl)) jf6) (by kernel_rfl)) jf8) gaugeFixes_jf9) gaugeFixes_jf10) gaugeFixes_jf11) gaugeFixes_jf12) (by kernel_rfl)) (by kernel_rfl)) (by kernel_rfl)) (by kernel_rfl)) (by kernel_rfl)) (by kernel_rfl)) (by kernel_rfl)) (by kernel_rfl)) (by kernel_rfl)) (by kernel_rfl)) (by kernel_rfl)) jf24) jf25) jf26) jf27) (by kernel_rfl)) (by kernel_rfl)) (by kernel_rfl)) (by kernel_rfl))

theorem gaugeFixes_over : Rows.gaugeFixesRow.holds Try.pinned (OpenSpec.ofChange Rows.gaugeFixesSpec) :=
  OpenClaim.holds_of_wide 8 Try.f8 rfl rfl rfl rfl rfl rfl rfl ⟨rfl, rfl, rfl, rfl, rfl⟩ rfl rfl rfl rfl rfl (by kernel_rfl) Try.func8 gaugeFixes_facts
    (of_decide_eq_true (by kernel_rfl)) (by unfold Func.isWrapper; first | (rw [if_pos (by decide +kernel)]; kernel_rfl) | (rw [if_neg (by decide +kernel)]; exact ⟨rfl, rfl⟩))
    (fun os started H enc _ => gaugeFixes_lifted os started H enc)

theorem gaugeFixes_holds : Rows.GaugeFixesSaid := gaugeFixes_over
#print axioms gaugeFixes_holds

end Go.Proofs.Ytegeamfacajeeaa
