/- GaugeTraces: along closed paths of a transformed field the traces are those of the field and the unit is turned by the unit of its site, for all fields, lists of units and paths.
Conditions: none. -/
import Derived.Test.YtegeamfacajeeaaGxM
import Derived.Test.YtegeamfacajeeaaLtC
import Derived.Test.YtegeamfacajeeaaGauD
import Derived.Test.YtegeamfacajeeaaSameU4
import Derived.Test.YtegeamfacajeeaaOpen4
import Derived.Test.YtegeamfacajeeaaOpenP4
import Derived.Test.YtegeamfacajeeaaJFacts
namespace Go.Proofs.Ytegeamfacajeeaa
set_option linter.unusedVariables false
set_option linter.unusedSimpArgs false
set_option maxRecDepth 1000000
open Go.ChangeShapes Go.WideShapes Go.ChangeAt Go.RowKit
open Um Tm

/-- a field and no error are answered -/
def RetTr (a b c : Int) (n : Nat) (T : List Q) (e : Ending) (w' : World) : Prop := ∃ g k : Nat, e = .returned (.tuple #[.agg #[.int .i64 a, .int .i64 b, .int .i64 c, .slice (some ⟨g, 0, none⟩) n k], .int .i64 0]) ∧ LBox w' g T
/-- some field and an error are answered -/
def RetErr (r : Int) (e : Ending) : Prop := ∃ (x y z : Int) (so : Option Addr) (n c : Nat), e = .returned (.tuple #[.agg #[.int .i64 x, .int .i64 y, .int .i64 z, .slice so n c], .int .i64 r])
theorem closed_ans (a b c s : Int) (ao : Option Addr) (cap : Nat) (l : List Int) (hlen : l.length ≤ 1000000) : ∃ (q : Bool) (r : Int), (∀ W : World, LiesOI W ao l → Calls Try.prog 23 #[.agg #[.int .i64 a, .int .i64 b, .int .i64 c], .int .i64 s, .slice ao l.length cap] W fun e w' => e = .returned (.tuple #[.bool q, .int .i64 r]) ∧ Below W.heap.size W w') ∧ (r = 0 → q = true → wkR a b c s l 0 ∧ en a b c s l = s) := by
  obtain ⟨r, hr⟩ := wkR_ex a b c s l
  by_cases h0 : r = 0
  · subst h0
    have hr' := hr
    rcases hr' with ⟨_, h⟩ | ⟨hz, s0, s1, h⟩
    · exact absurd rfl h
    · rcases h with ⟨_, h⟩ | ⟨_, _, h⟩ | ⟨h8, hs, _⟩
      · exact absurd h (by decide)
      · exact absurd h (by decide)
      · by_cases he : en a b c s l = s
        · exact ⟨true, 0, fun W h => isClosed_ok a b c s true ao cap l W hz s0 s1 h hs h8 (.inl ⟨he, rfl⟩), fun _ _ => ⟨hr, he⟩⟩
        · exact ⟨false, 0, fun W h => isClosed_ok a b c s false ao cap l W hz s0 s1 h hs h8 (.inr ⟨he, rfl⟩), fun _ h => by cases h⟩
  · exact ⟨false, r, fun W h => isClosed_bad a b c s r ao cap l W h hr h0 hlen, fun h => absurd h h0⟩
set_option maxHeartbeats 6400000 in
theorem gTc_long (a b c s : Int) (ao go po : Option Addr) (cap gc pc : Nat) (L G : List Q) (l : List Int) (w : World) (h : 200 < L.length) : Calls Try.prog 5 #[.agg #[.int .i64 a, .int .i64 b, .int .i64 c, .slice ao L.length cap], .slice go G.length gc, .agg #[.int .i64 s, .slice po l.length pc]] w fun e w' => e = .returned (.bool true) ∧ Below w.heap.size w w' := by
  have kn := sane4_any
  have c0 := fun W : World => long4_any a b c ao cap L true W (.inl ⟨h, rfl⟩)
  go_enter Try.func5, Try.ntmps5
  go_wp2_with ((with_reducible refine (c0 _).mono ?_); clear c0; rintro e w1 ⟨rfl, hw1⟩; have hc1 := Tail.cells hw1; have s1 := hw1.size; (try simp at s1); (try have z1_0 : w.heap.size < w1.heap.size := (by omega)); (try have z1_1 : w.heap.size + 1 < w1.heap.size := (by omega)); clear s1)
  go_wp2_with ((with_reducible refine (kn _).mono ?_); rintro e w2 ⟨rfl, hw2⟩; have hc2 := Tail.cells hw2; have s2 := hw2.size; (try simp at s2); (try have z2_0 : w.heap.size < w2.heap.size := (by omega)); (try have z2_1 : w.heap.size + 1 < w2.heap.size := (by omega)); (try have z2_2 : w1.heap.size < w2.heap.size := (by omega)); clear s2)
  go_ret
  exact ⟨rfl, by repeat (first | (with_reducible exact Below.refl _ _) | (with_reducible refine Below.setCell ?_ ?_ _) | (with_reducible refine Below.drew ?_) | (with_reducible refine Below.alloc ?_ ?_ _) | (with_reducible refine Below.trans ?_ (Below.mono hw2 ?_)) | (with_reducible refine Below.trans ?_ (Below.mono hw1 ?_)) | (with_reducible exact hw2.size) | (with_reducible exact hw1.size) | omega | (simp <;> omega) | (simp <;> (have s := hw2.size; omega)) | (simp <;> (have s := hw1.size; omega)) | (have s0 := hw2.size; (try simp at s0); have s1 := hw1.size; (try simp at s1); (try simp); omega))⟩
set_option maxHeartbeats 6400000 in
theorem gTc_many (a b c s : Int) (ao go po : Option Addr) (cap gc pc : Nat) (L G : List Q) (l : List Int) (w : World) (h : L.length ≤ 200) (h2 : 100 < G.length) : Calls Try.prog 5 #[.agg #[.int .i64 a, .int .i64 b, .int .i64 c, .slice ao L.length cap], .slice go G.length gc, .agg #[.int .i64 s, .slice po l.length pc]] w fun e w' => e = .returned (.bool true) ∧ Below w.heap.size w w' := by
  have kn := sane4_any
  have i1 : (G.length : Int) > 100 := by omega
  have c0 := fun W : World => long4_any a b c ao cap L false W (.inr ⟨h, rfl⟩)
  go_enter Try.func5, Try.ntmps5
  go_wp2_with ((with_reducible refine (c0 _).mono ?_); clear c0; rintro e w1 ⟨rfl, hw1⟩; have hc1 := Tail.cells hw1; have s1 := hw1.size; (try simp at s1); (try have z1_0 : w.heap.size < w1.heap.size := (by omega)); (try have z1_1 : w.heap.size + 1 < w1.heap.size := (by omega)); clear s1)
  go_wp2_with ((with_reducible refine (kn _).mono ?_); rintro e w2 ⟨rfl, hw2⟩; have hc2 := Tail.cells hw2; have s2 := hw2.size; (try simp at s2); (try have z2_0 : w.heap.size < w2.heap.size := (by omega)); (try have z2_1 : w.heap.size + 1 < w2.heap.size := (by omega)); (try have z2_2 : w1.heap.size < w2.heap.size := (by omega)); clear s2)
  go_ret
  exact ⟨rfl, by repeat (first | (with_reducible exact Below.refl _ _) | (with_reducible refine Below.setCell ?_ ?_ _) | (with_reducible refine Below.drew ?_) | (with_reducible refine Below.alloc ?_ ?_ _) | (with_reducible refine Below.trans ?_ (Below.mono hw2 ?_)) | (with_reducible refine Below.trans ?_ (Below.mono hw1 ?_)) | (with_reducible exact hw2.size) | (with_reducible exact hw1.size) | omega | (simp <;> omega) | (simp <;> (have s := hw2.size; omega)) | (simp <;> (have s := hw1.size; omega)) | (have s0 := hw2.size; (try simp at s0); have s1 := hw1.size; (try simp at s1); (try simp); omega))⟩
set_option maxHeartbeats 6400000 in
theorem gTc_more (a b c s : Int) (ao go po : Option Addr) (cap gc pc : Nat) (L G : List Q) (l : List Int) (w : World) (h : L.length ≤ 200) (h2 : G.length ≤ 100) (h3 : 100 < l.length) : Calls Try.prog 5 #[.agg #[.int .i64 a, .int .i64 b, .int .i64 c, .slice ao L.length cap], .slice go G.length gc, .agg #[.int .i64 s, .slice po l.length pc]] w fun e w' => e = .returned (.bool true) ∧ Below w.heap.size w w' := by
  have kn := sane4_any
  have i1 : ¬ (G.length : Int) > 100 := by omega
  have i2 : (l.length : Int) > 100 := by omega
  have c0 := fun W : World => long4_any a b c ao cap L false W (.inr ⟨h, rfl⟩)
  go_enter Try.func5, Try.ntmps5
  go_wp2_with ((with_reducible refine (c0 _).mono ?_); clear c0; rintro e w1 ⟨rfl, hw1⟩; have hc1 := Tail.cells hw1; have s1 := hw1.size; (try simp at s1); (try have z1_0 : w.heap.size < w1.heap.size := (by omega)); (try have z1_1 : w.heap.size + 1 < w1.heap.size := (by omega)); clear s1)
  go_wp2_with ((with_reducible refine (kn _).mono ?_); rintro e w2 ⟨rfl, hw2⟩; have hc2 := Tail.cells hw2; have s2 := hw2.size; (try simp at s2); (try have z2_0 : w.heap.size < w2.heap.size := (by omega)); (try have z2_1 : w.heap.size + 1 < w2.heap.size := (by omega)); (try have z2_2 : w1.heap.size < w2.heap.size := (by omega)); clear s2)
  go_ret
  exact ⟨rfl, by repeat (first | (with_reducible exact Below.refl _ _) | (with_reducible refine Below.setCell ?_ ?_ _) | (with_reducible refine Below.drew ?_) | (with_reducible refine Below.alloc ?_ ?_ _) | (with_reducible refine Below.trans ?_ (Below.mono hw2 ?_)) | (with_reducible refine Below.trans ?_ (Below.mono hw1 ?_)) | (with_reducible exact hw2.size) | (with_reducible exact hw1.size) | omega | (simp <;> omega) | (simp <;> (have s := hw2.size; omega)) | (simp <;> (have s := hw1.size; omega)) | (have s0 := hw2.size; (try simp at s0); have s1 := hw1.size; (try simp at s1); (try simp); omega))⟩
set_option maxHeartbeats 6400000 in
theorem gTc_out1 (a b c s r r2 : Int) (ao go po : Option Addr) (cap gc pc : Nat) (L G : List Q) (l : List Int) (w : World) (q : Bool) (h : L.length ≤ 200) (h2 : G.length ≤ 100) (h3 : l.length ≤ 100) (hm : LiesO w ao L) (hg : LiesO w go G) (hp : LiesOI w po l) (h0 : r ≠ 0)
    (c1 : ∀ (W : World), LiesO W ao L → LiesO W go G → Calls Try.prog 20 #[.agg #[.int .i64 a, .int .i64 b, .int .i64 c, .slice ao L.length cap], .slice go G.length gc] W fun e w' => RetErr r e ∧ Below W.heap.size W w')
    (c2 : ∀ (W : World), LiesOI W po l → Calls Try.prog 23 #[.agg #[.int .i64 a, .int .i64 b, .int .i64 c], .int .i64 s, .slice po l.length pc] W fun e w' => e = .returned (.tuple #[.bool q, .int .i64 r2]) ∧ Below W.heap.size W w') : Calls Try.prog 5 #[.agg #[.int .i64 a, .int .i64 b, .int .i64 c, .slice ao L.length cap], .slice go G.length gc, .agg #[.int .i64 s, .slice po l.length pc]] w fun e w' => e = .returned (.bool true) ∧ Below w.heap.size w w' := by
  have kn := sane4_any
  have c0 := fun W : World => long4_any a b c ao cap L false W (.inr ⟨h, rfl⟩)
  have H := Lib.hid hm
  have K := Lib.hid hg
  have P := Lib.hid hp
  have i1 : ¬ (G.length : Int) > 100 := by omega
  have i2 : ¬ (l.length : Int) > 100 := by omega
  clear hm hg hp h h2 h3
  have t1 : (r != 0) = true := by simpa using h0
  clear h0
  go_enter Try.func5, Try.ntmps5
  go_wp2_with ((with_reducible refine (c0 _).mono ?_); clear c0; rintro e w1 ⟨rfl, hw1⟩; have hc1 := Tail.cells hw1; have s1 := hw1.size; (try simp at s1); (try have z1_0 : w.heap.size < w1.heap.size := (by omega)); (try have z1_1 : w.heap.size + 1 < w1.heap.size := (by omega)); clear s1)
  go_wp2_with ((with_reducible refine (c1 _ (H.out.later (by repeat (first | (with_reducible exact Below.refl _ _) | (with_reducible refine Below.setCell ?_ ?_ _) | (with_reducible refine Below.drew ?_) | (with_reducible refine Below.alloc ?_ ?_ _) | (with_reducible refine Below.trans ?_ (Below.mono hw1 ?_)) | (with_reducible exact hw1.size) | omega | (simp <;> omega) | (simp <;> (have s := hw1.size; omega)) | (have s0 := hw1.size; (try simp at s0); (try simp); omega)))) (K.out.later (by repeat (first | (with_reducible exact Below.refl _ _) | (with_reducible refine Below.setCell ?_ ?_ _) | (with_reducible refine Below.drew ?_) | (with_reducible refine Below.alloc ?_ ?_ _) | (with_reducible refine Below.trans ?_ (Below.mono hw1 ?_)) | (with_reducible exact hw1.size) | omega | (simp <;> omega) | (simp <;> (have s := hw1.size; omega)) | (have s0 := hw1.size; (try simp at s0); (try simp); omega))))).mono ?_); clear c1; rintro e w2 ⟨⟨x2, y2, z2, o2, n2, k2, rfl⟩, hw2⟩; have hc2 := Tail.cells hw2; have s2 := hw2.size; (try simp at s2); (try have z2_0 : w.heap.size < w2.heap.size := (by omega)); (try have z2_1 : w.heap.size + 1 < w2.heap.size := (by omega)); (try have z2_2 : w1.heap.size < w2.heap.size := (by omega)); clear s2)
  go_wp2_with ((with_reducible refine (c2 _ (P.out.later (by repeat (first | (with_reducible exact Below.refl _ _) | (with_reducible refine Below.setCell ?_ ?_ _) | (with_reducible refine Below.drew ?_) | (with_reducible refine Below.alloc ?_ ?_ _) | (with_reducible refine Below.trans ?_ (Below.mono hw1 ?_)) | (with_reducible refine Below.trans ?_ (Below.mono hw2 ?_)) | (with_reducible exact hw1.size) | (with_reducible exact hw2.size) | omega | (simp <;> omega) | (simp <;> (have s := hw1.size; omega)) | (simp <;> (have s := hw2.size; omega)) | (have s0 := hw1.size; (try simp at s0); have s1 := hw2.size; (try simp at s1); (try simp); omega))))).mono ?_); clear c2; rintro e w3 ⟨rfl, hw3⟩; have hc3 := Tail.cells hw3; have s3 := hw3.size; (try simp at s3); (try have z3_0 : w.heap.size < w3.heap.size := (by omega)); (try have z3_1 : w.heap.size + 1 < w3.heap.size := (by omega)); (try have z3_2 : w1.heap.size < w3.heap.size := (by omega)); (try have z3_3 : w2.heap.size < w3.heap.size := (by omega)); clear s3)
  go_wp2_with ((with_reducible refine (kn _).mono ?_); rintro e w4 ⟨rfl, hw4⟩; have hc4 := Tail.cells hw4; have s4 := hw4.size; (try simp at s4); (try have z4_0 : w.heap.size < w4.heap.size := (by omega)); (try have z4_1 : w.heap.size + 1 < w4.heap.size := (by omega)); (try have z4_2 : w1.heap.size < w4.heap.size := (by omega)); (try have z4_3 : w2.heap.size < w4.heap.size := (by omega)); (try have z4_4 : w3.heap.size < w4.heap.size := (by omega)); clear s4)
  go_ret
  exact ⟨rfl, by repeat (first | (with_reducible exact Below.refl _ _) | (with_reducible refine Below.setCell ?_ ?_ _) | (with_reducible refine Below.drew ?_) | (with_reducible refine Below.alloc ?_ ?_ _) | (with_reducible refine Below.trans ?_ (Below.mono hw4 ?_)) | (with_reducible refine Below.trans ?_ (Below.mono hw3 ?_)) | (with_reducible refine Below.trans ?_ (Below.mono hw2 ?_)) | (with_reducible refine Below.trans ?_ (Below.mono hw1 ?_)) | (with_reducible exact hw4.size) | (with_reducible exact hw3.size) | (with_reducible exact hw2.size) | (with_reducible exact hw1.size) | omega | (simp <;> omega) | (simp <;> (have s := hw4.size; omega)) | (simp <;> (have s := hw3.size; omega)) | (simp <;> (have s := hw2.size; omega)) | (simp <;> (have s := hw1.size; omega)) | (have s0 := hw4.size; (try simp at s0); have s1 := hw3.size; (try simp at s1); have s2 := hw2.size; (try simp at s2); have s3 := hw1.size; (try simp at s3); (try simp); omega))⟩
set_option maxHeartbeats 6400000 in
theorem gTc_out2 (a b c s r r2 : Int) (ao go po : Option Addr) (cap gc pc : Nat) (L G : List Q) (l : List Int) (w : World) (q : Bool) (h : L.length ≤ 200) (h2 : G.length ≤ 100) (h3 : l.length ≤ 100) (hm : LiesO w ao L) (hg : LiesO w go G) (hp : LiesOI w po l) (h0 : r2 ≠ 0)
    (c1 : ∀ (W : World), LiesO W ao L → LiesO W go G → Calls Try.prog 20 #[.agg #[.int .i64 a, .int .i64 b, .int .i64 c, .slice ao L.length cap], .slice go G.length gc] W fun e w' => RetErr 0 e ∧ Below W.heap.size W w')
    (c2 : ∀ (W : World), LiesOI W po l → Calls Try.prog 23 #[.agg #[.int .i64 a, .int .i64 b, .int .i64 c], .int .i64 s, .slice po l.length pc] W fun e w' => e = .returned (.tuple #[.bool q, .int .i64 r2]) ∧ Below W.heap.size W w') : Calls Try.prog 5 #[.agg #[.int .i64 a, .int .i64 b, .int .i64 c, .slice ao L.length cap], .slice go G.length gc, .agg #[.int .i64 s, .slice po l.length pc]] w fun e w' => e = .returned (.bool true) ∧ Below w.heap.size w w' := by
  have kn := sane4_any
  have c0 := fun W : World => long4_any a b c ao cap L false W (.inr ⟨h, rfl⟩)
  have H := Lib.hid hm
  have K := Lib.hid hg
  have P := Lib.hid hp
  have i1 : ¬ (G.length : Int) > 100 := by omega
  have i2 : ¬ (l.length : Int) > 100 := by omega
  clear hm hg hp h h2 h3
  have t1 : (r2 != 0) = true := by simpa using h0
  clear h0
  go_enter Try.func5, Try.ntmps5
  go_wp2_with ((with_reducible refine (c0 _).mono ?_); clear c0; rintro e w1 ⟨rfl, hw1⟩; have hc1 := Tail.cells hw1; have s1 := hw1.size; (try simp at s1); (try have z1_0 : w.heap.size < w1.heap.size := (by omega)); (try have z1_1 : w.heap.size + 1 < w1.heap.size := (by omega)); clear s1)
  go_wp2_with ((with_reducible refine (c1 _ (H.out.later (by repeat (first | (with_reducible exact Below.refl _ _) | (with_reducible refine Below.setCell ?_ ?_ _) | (with_reducible refine Below.drew ?_) | (with_reducible refine Below.alloc ?_ ?_ _) | (with_reducible refine Below.trans ?_ (Below.mono hw1 ?_)) | (with_reducible exact hw1.size) | omega | (simp <;> omega) | (simp <;> (have s := hw1.size; omega)) | (have s0 := hw1.size; (try simp at s0); (try simp); omega)))) (K.out.later (by repeat (first | (with_reducible exact Below.refl _ _) | (with_reducible refine Below.setCell ?_ ?_ _) | (with_reducible refine Below.drew ?_) | (with_reducible refine Below.alloc ?_ ?_ _) | (with_reducible refine Below.trans ?_ (Below.mono hw1 ?_)) | (with_reducible exact hw1.size) | omega | (simp <;> omega) | (simp <;> (have s := hw1.size; omega)) | (have s0 := hw1.size; (try simp at s0); (try simp); omega))))).mono ?_); clear c1; rintro e w2 ⟨⟨x2, y2, z2, o2, n2, k2, rfl⟩, hw2⟩; have hc2 := Tail.cells hw2; have s2 := hw2.size; (try simp at s2); (try have z2_0 : w.heap.size < w2.heap.size := (by omega)); (try have z2_1 : w.heap.size + 1 < w2.heap.size := (by omega)); (try have z2_2 : w1.heap.size < w2.heap.size := (by omega)); clear s2)
  go_wp2_with ((with_reducible refine (c2 _ (P.out.later (by repeat (first | (with_reducible exact Below.refl _ _) | (with_reducible refine Below.setCell ?_ ?_ _) | (with_reducible refine Below.drew ?_) | (with_reducible refine Below.alloc ?_ ?_ _) | (with_reducible refine Below.trans ?_ (Below.mono hw1 ?_)) | (with_reducible refine Below.trans ?_ (Below.mono hw2 ?_)) | (with_reducible exact hw1.size) | (with_reducible exact hw2.size) | omega | (simp <;> omega) | (simp <;> (have s := hw1.size; omega)) | (simp <;> (have s := hw2.size; omega)) | (have s0 := hw1.size; (try simp at s0); have s1 := hw2.size; (try simp at s1); (try simp); omega))))).mono ?_); clear c2; rintro e w3 ⟨rfl, hw3⟩; have hc3 := Tail.cells hw3; have s3 := hw3.size; (try simp at s3); (try have z3_0 : w.heap.size < w3.heap.size := (by omega)); (try have z3_1 : w.heap.size + 1 < w3.heap.size := (by omega)); (try have z3_2 : w1.heap.size < w3.heap.size := (by omega)); (try have z3_3 : w2.heap.size < w3.heap.size := (by omega)); clear s3)
  go_wp2_with ((with_reducible refine (kn _).mono ?_); rintro e w4 ⟨rfl, hw4⟩; have hc4 := Tail.cells hw4; have s4 := hw4.size; (try simp at s4); (try have z4_0 : w.heap.size < w4.heap.size := (by omega)); (try have z4_1 : w.heap.size + 1 < w4.heap.size := (by omega)); (try have z4_2 : w1.heap.size < w4.heap.size := (by omega)); (try have z4_3 : w2.heap.size < w4.heap.size := (by omega)); (try have z4_4 : w3.heap.size < w4.heap.size := (by omega)); clear s4)
  go_ret
  exact ⟨rfl, by repeat (first | (with_reducible exact Below.refl _ _) | (with_reducible refine Below.setCell ?_ ?_ _) | (with_reducible refine Below.drew ?_) | (with_reducible refine Below.alloc ?_ ?_ _) | (with_reducible refine Below.trans ?_ (Below.mono hw4 ?_)) | (with_reducible refine Below.trans ?_ (Below.mono hw3 ?_)) | (with_reducible refine Below.trans ?_ (Below.mono hw2 ?_)) | (with_reducible refine Below.trans ?_ (Below.mono hw1 ?_)) | (with_reducible exact hw4.size) | (with_reducible exact hw3.size) | (with_reducible exact hw2.size) | (with_reducible exact hw1.size) | omega | (simp <;> omega) | (simp <;> (have s := hw4.size; omega)) | (simp <;> (have s := hw3.size; omega)) | (simp <;> (have s := hw2.size; omega)) | (simp <;> (have s := hw1.size; omega)) | (have s0 := hw4.size; (try simp at s0); have s1 := hw3.size; (try simp at s1); have s2 := hw2.size; (try simp at s2); have s3 := hw1.size; (try simp at s3); (try simp); omega))⟩
set_option maxHeartbeats 6400000 in
theorem gTc_out3 (a b c s r r2 : Int) (ao go po : Option Addr) (cap gc pc : Nat) (L G : List Q) (l : List Int) (w : World) (q : Bool) (h : L.length ≤ 200) (h2 : G.length ≤ 100) (h3 : l.length ≤ 100) (hm : LiesO w ao L) (hg : LiesO w go G) (hp : LiesOI w po l) 
    (c1 : ∀ (W : World), LiesO W ao L → LiesO W go G → Calls Try.prog 20 #[.agg #[.int .i64 a, .int .i64 b, .int .i64 c, .slice ao L.length cap], .slice go G.length gc] W fun e w' => RetErr 0 e ∧ Below W.heap.size W w')
    (c2 : ∀ (W : World), LiesOI W po l → Calls Try.prog 23 #[.agg #[.int .i64 a, .int .i64 b, .int .i64 c], .int .i64 s, .slice po l.length pc] W fun e w' => e = .returned (.tuple #[.bool false, .int .i64 0]) ∧ Below W.heap.size W w') : Calls Try.prog 5 #[.agg #[.int .i64 a, .int .i64 b, .int .i64 c, .slice ao L.length cap], .slice go G.length gc, .agg #[.int .i64 s, .slice po l.length pc]] w fun e w' => e = .returned (.bool true) ∧ Below w.heap.size w w' := by
  have kn := sane4_any
  have c0 := fun W : World => long4_any a b c ao cap L false W (.inr ⟨h, rfl⟩)
  have H := Lib.hid hm
  have K := Lib.hid hg
  have P := Lib.hid hp
  have i1 : ¬ (G.length : Int) > 100 := by omega
  have i2 : ¬ (l.length : Int) > 100 := by omega
  clear hm hg hp h h2 h3
  go_enter Try.func5, Try.ntmps5
  go_wp2_with ((with_reducible refine (c0 _).mono ?_); clear c0; rintro e w1 ⟨rfl, hw1⟩; have hc1 := Tail.cells hw1; have s1 := hw1.size; (try simp at s1); (try have z1_0 : w.heap.size < w1.heap.size := (by omega)); (try have z1_1 : w.heap.size + 1 < w1.heap.size := (by omega)); clear s1)
  go_wp2_with ((with_reducible refine (c1 _ (H.out.later (by repeat (first | (with_reducible exact Below.refl _ _) | (with_reducible refine Below.setCell ?_ ?_ _) | (with_reducible refine Below.drew ?_) | (with_reducible refine Below.alloc ?_ ?_ _) | (with_reducible refine Below.trans ?_ (Below.mono hw1 ?_)) | (with_reducible exact hw1.size) | omega | (simp <;> omega) | (simp <;> (have s := hw1.size; omega)) | (have s0 := hw1.size; (try simp at s0); (try simp); omega)))) (K.out.later (by repeat (first | (with_reducible exact Below.refl _ _) | (with_reducible refine Below.setCell ?_ ?_ _) | (with_reducible refine Below.drew ?_) | (with_reducible refine Below.alloc ?_ ?_ _) | (with_reducible refine Below.trans ?_ (Below.mono hw1 ?_)) | (with_reducible exact hw1.size) | omega | (simp <;> omega) | (simp <;> (have s := hw1.size; omega)) | (have s0 := hw1.size; (try simp at s0); (try simp); omega))))).mono ?_); clear c1; rintro e w2 ⟨⟨x2, y2, z2, o2, n2, k2, rfl⟩, hw2⟩; have hc2 := Tail.cells hw2; have s2 := hw2.size; (try simp at s2); (try have z2_0 : w.heap.size < w2.heap.size := (by omega)); (try have z2_1 : w.heap.size + 1 < w2.heap.size := (by omega)); (try have z2_2 : w1.heap.size < w2.heap.size := (by omega)); clear s2)
  go_wp2_with ((with_reducible refine (c2 _ (P.out.later (by repeat (first | (with_reducible exact Below.refl _ _) | (with_reducible refine Below.setCell ?_ ?_ _) | (with_reducible refine Below.drew ?_) | (with_reducible refine Below.alloc ?_ ?_ _) | (with_reducible refine Below.trans ?_ (Below.mono hw1 ?_)) | (with_reducible refine Below.trans ?_ (Below.mono hw2 ?_)) | (with_reducible exact hw1.size) | (with_reducible exact hw2.size) | omega | (simp <;> omega) | (simp <;> (have s := hw1.size; omega)) | (simp <;> (have s := hw2.size; omega)) | (have s0 := hw1.size; (try simp at s0); have s1 := hw2.size; (try simp at s1); (try simp); omega))))).mono ?_); clear c2; rintro e w3 ⟨rfl, hw3⟩; have hc3 := Tail.cells hw3; have s3 := hw3.size; (try simp at s3); (try have z3_0 : w.heap.size < w3.heap.size := (by omega)); (try have z3_1 : w.heap.size + 1 < w3.heap.size := (by omega)); (try have z3_2 : w1.heap.size < w3.heap.size := (by omega)); (try have z3_3 : w2.heap.size < w3.heap.size := (by omega)); clear s3)
  go_wp2_with ((with_reducible refine (kn _).mono ?_); rintro e w4 ⟨rfl, hw4⟩; have hc4 := Tail.cells hw4; have s4 := hw4.size; (try simp at s4); (try have z4_0 : w.heap.size < w4.heap.size := (by omega)); (try have z4_1 : w.heap.size + 1 < w4.heap.size := (by omega)); (try have z4_2 : w1.heap.size < w4.heap.size := (by omega)); (try have z4_3 : w2.heap.size < w4.heap.size := (by omega)); (try have z4_4 : w3.heap.size < w4.heap.size := (by omega)); clear s4)
  go_ret
  exact ⟨rfl, by repeat (first | (with_reducible exact Below.refl _ _) | (with_reducible refine Below.setCell ?_ ?_ _) | (with_reducible refine Below.drew ?_) | (with_reducible refine Below.alloc ?_ ?_ _) | (with_reducible refine Below.trans ?_ (Below.mono hw4 ?_)) | (with_reducible refine Below.trans ?_ (Below.mono hw3 ?_)) | (with_reducible refine Below.trans ?_ (Below.mono hw2 ?_)) | (with_reducible refine Below.trans ?_ (Below.mono hw1 ?_)) | (with_reducible exact hw4.size) | (with_reducible exact hw3.size) | (with_reducible exact hw2.size) | (with_reducible exact hw1.size) | omega | (simp <;> omega) | (simp <;> (have s := hw4.size; omega)) | (simp <;> (have s := hw3.size; omega)) | (simp <;> (have s := hw2.size; omega)) | (simp <;> (have s := hw1.size; omega)) | (have s0 := hw4.size; (try simp at s0); have s1 := hw3.size; (try simp at s1); have s2 := hw2.size; (try simp at s2); have s3 := hw1.size; (try simp at s3); (try simp); omega))⟩
set_option maxHeartbeats 12800000 in
theorem gTc_ok (a b c p1 p2 : Int) (S : Nat) (ao po : Option Addr) (gl goff cap gc pc : Nat) (L G T : List Q) (l : List Int) (x y z r : Q) (w : World) (h : L.length ≤ 200) (h2 : G.length ≤ 100) (h3 : l.length ≤ 100) (hm : LiesO w ao L) (hg : Lies w gl goff G) (hp : LiesOI w po l) (hS : G[S]? = some z)
    (c1 : ∀ (W : World), LiesO W ao L → Lies W gl goff G → Calls Try.prog 20 #[.agg #[.int .i64 a, .int .i64 b, .int .i64 c, .slice ao L.length cap], .slice (some ⟨gl, goff, none⟩) G.length gc] W fun e w' => RetTr a b c L.length T e w' ∧ Below W.heap.size W w')
    (c2 : ∀ (W : World), LiesOI W po l → Calls Try.prog 23 #[.agg #[.int .i64 a, .int .i64 b, .int .i64 c], .int .i64 (S : Int), .slice po l.length pc] W fun e w' => e = .returned (.tuple #[.bool true, .int .i64 0]) ∧ Below W.heap.size W w')
    (c3 : ∀ (W : World), LiesO W ao L → LiesOI W po l → Calls Try.prog 24 #[.agg #[.int .i64 a, .int .i64 b, .int .i64 c, .slice ao L.length cap], .int .i64 (S : Int), .slice po l.length pc] W fun e w' => e = .returned (.tuple #[.agg #[.int .i64 x.a, .int .i64 x.b, .int .i64 x.c, .int .i64 x.d, .int .i64 x.n], .int .i64 0]) ∧ Below W.heap.size W w')
    (c4 : ∀ (W : World) (g k : Nat), LBox W g T → LiesOI W po l → Calls Try.prog 24 #[.agg #[.int .i64 a, .int .i64 b, .int .i64 c, .slice (some ⟨g, 0, none⟩) L.length k], .int .i64 (S : Int), .slice po l.length pc] W fun e w' => e = .returned (.tuple #[.agg #[.int .i64 y.a, .int .i64 y.b, .int .i64 y.c, .int .i64 y.d, .int .i64 y.n], .int .i64 0]) ∧ Below W.heap.size W w')
    (c5 : ∀ (W : World), LiesO W ao L → LiesOI W po l → Calls Try.prog 25 #[.agg #[.int .i64 a, .int .i64 b, .int .i64 c, .slice ao L.length cap], .int .i64 (S : Int), .slice po l.length pc] W fun e w' => e = .returned (.tuple #[.agg #[.int .i64 p1, .int .i64 p2], .int .i64 0]) ∧ Below W.heap.size W w')
    (c6 : ∀ (W : World) (g k : Nat), LBox W g T → LiesOI W po l → Calls Try.prog 25 #[.agg #[.int .i64 a, .int .i64 b, .int .i64 c, .slice (some ⟨g, 0, none⟩) L.length k], .int .i64 (S : Int), .slice po l.length pc] W fun e w' => e = .returned (.tuple #[.agg #[.int .i64 p1, .int .i64 p2], .int .i64 0]) ∧ Below W.heap.size W w')
    (m1 : ∀ (W : World), Calls Try.prog 26 #[.agg #[.int .i64 z.a, .int .i64 z.b, .int .i64 z.c, .int .i64 z.d, .int .i64 z.n], .agg #[.int .i64 x.a, .int .i64 x.b, .int .i64 x.c, .int .i64 x.d, .int .i64 x.n]] W fun e w' => e = .returned (.agg #[.int .i64 r.a, .int .i64 r.b, .int .i64 r.c, .int .i64 r.d, .int .i64 r.n]) ∧ Below W.heap.size W w')
    (m2 : ∀ (W : World), Calls Try.prog 26 #[.agg #[.int .i64 y.a, .int .i64 y.b, .int .i64 y.c, .int .i64 y.d, .int .i64 y.n], .agg #[.int .i64 z.a, .int .i64 z.b, .int .i64 z.c, .int .i64 z.d, .int .i64 z.n]] W fun e w' => e = .returned (.agg #[.int .i64 r.a, .int .i64 r.b, .int .i64 r.c, .int .i64 r.d, .int .i64 r.n]) ∧ Below W.heap.size W w') : Calls Try.prog 5 #[.agg #[.int .i64 a, .int .i64 b, .int .i64 c, .slice ao L.length cap], .slice (some ⟨gl, goff, none⟩) G.length gc, .agg #[.int .i64 (S : Int), .slice po l.length pc]] w fun e w' => e = .returned (.bool true) ∧ Below w.heap.size w w' := by
  have kn := sane4_any
  have c0 := fun W : World => long4_any a b c ao cap L false W (.inr ⟨h, rfl⟩)
  have H := Lib.hid hm
  have K := Lib.hid hg
  have P := Lib.hid hp
  have i1 : ¬ (G.length : Int) > 100 := by omega
  have i2 : ¬ (l.length : Int) > 100 := by omega
  have HS := Lib.hid hS
  have iS : (S : Int) < (G.length : Int) := by have := (List.getElem?_eq_some_iff.1 hS).1; omega
  clear hS hm hg hp h h2 h3
  have qT : ∀ W, Sem.run Try.prog (Op.equalIn 10000 47 (.agg #[.int .i64 p1, .int .i64 p2]) (.agg #[.int .i64 p1, .int .i64 p2])) W = .ok true W := fun W => by simp [go_sem]
  have qU : ∀ W, Sem.run Try.prog (Op.equalIn 10000 34 (.agg #[.int .i64 r.a, .int .i64 r.b, .int .i64 r.c, .int .i64 r.d, .int .i64 r.n]) (.agg #[.int .i64 r.a, .int .i64 r.b, .int .i64 r.c, .int .i64 r.d, .int .i64 r.n])) W = .ok true W := fun W => by simpa using eqU r r W
  go_enter Try.func5, Try.ntmps5
  obtain ⟨X0, hX0⟩ : ∃ X0, X0 = (w.alloc (.cells #[.int .i64 a, .int .i64 b, .int .i64 c, .slice ao L.length cap] 25)).alloc (.cells #[.int .i64 (S : Int), .slice po l.length pc] 41) := ⟨_, rfl⟩
  have P0 : X0.cell? ⟨w.heap.size + 1, 0, none⟩ = some (.int .i64 (S : Int)) := by rw [hX0]; simp [go_sem]
  go_wp2_with ((with_reducible refine (c0 _).mono ?_); clear c0; rintro e w1 ⟨rfl, hw1⟩; have hc1 := Tail.cells hw1; have s1 := hw1.size; (try simp at s1); (try have z1_0 : w.heap.size < w1.heap.size := (by omega)); (try have z1_1 : w.heap.size + 1 < w1.heap.size := (by omega)); clear s1; have hP1 := held_belowG (by rw [hX0]; exact hw1 : Below X0.heap.size X0 w1) P0; clear P0)
  go_wp2_with ((with_reducible refine (c1 _ (H.out.later (by repeat (first | (with_reducible exact Below.refl _ _) | (with_reducible refine Below.setCell ?_ ?_ _) | (with_reducible refine Below.drew ?_) | (with_reducible refine Below.alloc ?_ ?_ _) | (with_reducible refine Below.trans ?_ (Below.mono hw1 ?_)) | (with_reducible exact hw1.size) | omega | (simp <;> omega) | (simp <;> (have s := hw1.size; omega)) | (have s0 := hw1.size; (try simp at s0); (try simp); omega)))) (K.out.later (by repeat (first | (with_reducible exact Below.refl _ _) | (with_reducible refine Below.setCell ?_ ?_ _) | (with_reducible refine Below.drew ?_) | (with_reducible refine Below.alloc ?_ ?_ _) | (with_reducible refine Below.trans ?_ (Below.mono hw1 ?_)) | (with_reducible exact hw1.size) | omega | (simp <;> omega) | (simp <;> (have s := hw1.size; omega)) | (have s0 := hw1.size; (try simp at s0); (try simp); omega))))).mono ?_); clear c1; rintro e w2 ⟨⟨g2, k2, rfl, hb2⟩, hw2⟩; have hc2 := Tail.cells hw2; have s2 := hw2.size; (try simp at s2); (try have z2_0 : w.heap.size < w2.heap.size := (by omega)); (try have z2_1 : w.heap.size + 1 < w2.heap.size := (by omega)); (try have z2_2 : w1.heap.size < w2.heap.size := (by omega)); clear s2; have A2 := Lib.hid hb2; clear hb2)
  go_wp2_with ((with_reducible refine (c2 _ (P.out.later (by repeat (first | (with_reducible exact Below.refl _ _) | (with_reducible refine Below.setCell ?_ ?_ _) | (with_reducible refine Below.drew ?_) | (with_reducible refine Below.alloc ?_ ?_ _) | (with_reducible refine Below.trans ?_ (Below.mono hw1 ?_)) | (with_reducible refine Below.trans ?_ (Below.mono hw2 ?_)) | (with_reducible exact hw1.size) | (with_reducible exact hw2.size) | omega | (simp <;> omega) | (simp <;> (have s := hw1.size; omega)) | (simp <;> (have s := hw2.size; omega)) | (have s0 := hw1.size; (try simp at s0); have s1 := hw2.size; (try simp at s1); (try simp); omega))))).mono ?_); clear c2; rintro e w3 ⟨rfl, hw3⟩; have hc3 := Tail.cells hw3; have s3 := hw3.size; (try simp at s3); (try have z3_0 : w.heap.size < w3.heap.size := (by omega)); (try have z3_1 : w.heap.size + 1 < w3.heap.size := (by omega)); (try have z3_2 : w1.heap.size < w3.heap.size := (by omega)); (try have z3_3 : w2.heap.size < w3.heap.size := (by omega)); clear s3)
  go_wp2_with ((with_reducible refine (c3 _ (H.out.later (by repeat (first | (with_reducible exact Below.refl _ _) | (with_reducible refine Below.setCell ?_ ?_ _) | (with_reducible refine Below.drew ?_) | (with_reducible refine Below.alloc ?_ ?_ _) | (with_reducible refine Below.trans ?_ (Below.mono hw1 ?_)) | (with_reducible refine Below.trans ?_ (Below.mono hw2 ?_)) | (with_reducible refine Below.trans ?_ (Below.mono hw3 ?_)) | (with_reducible exact hw1.size) | (with_reducible exact hw2.size) | (with_reducible exact hw3.size) | omega | (simp <;> omega) | (simp <;> (have s := hw1.size; omega)) | (simp <;> (have s := hw2.size; omega)) | (simp <;> (have s := hw3.size; omega)) | (have s0 := hw1.size; (try simp at s0); have s1 := hw2.size; (try simp at s1); have s2 := hw3.size; (try simp at s2); (try simp); omega)))) (P.out.later (by repeat (first | (with_reducible exact Below.refl _ _) | (with_reducible refine Below.setCell ?_ ?_ _) | (with_reducible refine Below.drew ?_) | (with_reducible refine Below.alloc ?_ ?_ _) | (with_reducible refine Below.trans ?_ (Below.mono hw1 ?_)) | (with_reducible refine Below.trans ?_ (Below.mono hw2 ?_)) | (with_reducible refine Below.trans ?_ (Below.mono hw3 ?_)) | (with_reducible exact hw1.size) | (with_reducible exact hw2.size) | (with_reducible exact hw3.size) | omega | (simp <;> omega) | (simp <;> (have s := hw1.size; omega)) | (simp <;> (have s := hw2.size; omega)) | (simp <;> (have s := hw3.size; omega)) | (have s0 := hw1.size; (try simp at s0); have s1 := hw2.size; (try simp at s1); have s2 := hw3.size; (try simp at s2); (try simp); omega))))).mono ?_); clear c3; rintro e w4 ⟨rfl, hw4⟩; have hc4 := Tail.cells hw4; have s4 := hw4.size; (try simp at s4); (try have z4_0 : w.heap.size < w4.heap.size := (by omega)); (try have z4_1 : w.heap.size + 1 < w4.heap.size := (by omega)); (try have z4_2 : w1.heap.size < w4.heap.size := (by omega)); (try have z4_3 : w2.heap.size < w4.heap.size := (by omega)); (try have z4_4 : w3.heap.size < w4.heap.size := (by omega)); clear s4)
  go_wp2_with ((with_reducible refine (c4 _ _ _ (A2.out.later (by repeat (first | (with_reducible exact Below.refl _ _) | (with_reducible refine Below.setCell ?_ ?_ _) | (with_reducible refine Below.drew ?_) | (with_reducible refine Below.alloc ?_ ?_ _) | (with_reducible refine Below.trans ?_ (Below.mono hw3 ?_)) | (with_reducible refine Below.trans ?_ (Below.mono hw4 ?_)) | (with_reducible exact hw3.size) | (with_reducible exact hw4.size) | omega | (simp <;> omega) | (simp <;> (have s := hw3.size; omega)) | (simp <;> (have s := hw4.size; omega)) | (have s0 := hw3.size; (try simp at s0); have s1 := hw4.size; (try simp at s1); (try simp); omega)))) (P.out.later (by repeat (first | (with_reducible exact Below.refl _ _) | (with_reducible refine Below.setCell ?_ ?_ _) | (with_reducible refine Below.drew ?_) | (with_reducible refine Below.alloc ?_ ?_ _) | (with_reducible refine Below.trans ?_ (Below.mono hw1 ?_)) | (with_reducible refine Below.trans ?_ (Below.mono hw2 ?_)) | (with_reducible refine Below.trans ?_ (Below.mono hw3 ?_)) | (with_reducible refine Below.trans ?_ (Below.mono hw4 ?_)) | (with_reducible exact hw1.size) | (with_reducible exact hw2.size) | (with_reducible exact hw3.size) | (with_reducible exact hw4.size) | omega | (simp <;> omega) | (simp <;> (have s := hw1.size; omega)) | (simp <;> (have s := hw2.size; omega)) | (simp <;> (have s := hw3.size; omega)) | (simp <;> (have s := hw4.size; omega)) | (have s0 := hw1.size; (try simp at s0); have s1 := hw2.size; (try simp at s1); have s2 := hw3.size; (try simp at s2); have s3 := hw4.size; (try simp at s3); (try simp); omega))))).mono ?_); clear c4; rintro e w5 ⟨rfl, hw5⟩; have hc5 := Tail.cells hw5; have s5 := hw5.size; (try simp at s5); (try have z5_0 : w.heap.size < w5.heap.size := (by omega)); (try have z5_1 : w.heap.size + 1 < w5.heap.size := (by omega)); (try have z5_2 : w1.heap.size < w5.heap.size := (by omega)); (try have z5_3 : w2.heap.size < w5.heap.size := (by omega)); (try have z5_4 : w3.heap.size < w5.heap.size := (by omega)); (try have z5_5 : w4.heap.size < w5.heap.size := (by omega)); clear s5; have U5 := Lib.hid ((lies1n (x := x) (T := 34)).later hw5))
  go_wp2_with ((with_reducible refine (c5 _ (H.out.later (by repeat (first | (with_reducible exact Below.refl _ _) | (with_reducible refine Below.setCell ?_ ?_ _) | (with_reducible refine Below.drew ?_) | (with_reducible refine Below.alloc ?_ ?_ _) | (with_reducible refine Below.trans ?_ (Below.mono hw1 ?_)) | (with_reducible refine Below.trans ?_ (Below.mono hw2 ?_)) | (with_reducible refine Below.trans ?_ (Below.mono hw3 ?_)) | (with_reducible refine Below.trans ?_ (Below.mono hw4 ?_)) | (with_reducible refine Below.trans ?_ (Below.mono hw5 ?_)) | (with_reducible exact hw1.size) | (with_reducible exact hw2.size) | (with_reducible exact hw3.size) | (with_reducible exact hw4.size) | (with_reducible exact hw5.size) | omega | (simp <;> omega) | (simp <;> (have s := hw1.size; omega)) | (simp <;> (have s := hw2.size; omega)) | (simp <;> (have s := hw3.size; omega)) | (simp <;> (have s := hw4.size; omega)) | (simp <;> (have s := hw5.size; omega)) | (have s0 := hw1.size; (try simp at s0); have s1 := hw2.size; (try simp at s1); have s2 := hw3.size; (try simp at s2); have s3 := hw4.size; (try simp at s3); have s4 := hw5.size; (try simp at s4); (try simp); omega)))) (P.out.later (by repeat (first | (with_reducible exact Below.refl _ _) | (with_reducible refine Below.setCell ?_ ?_ _) | (with_reducible refine Below.drew ?_) | (with_reducible refine Below.alloc ?_ ?_ _) | (with_reducible refine Below.trans ?_ (Below.mono hw1 ?_)) | (with_reducible refine Below.trans ?_ (Below.mono hw2 ?_)) | (with_reducible refine Below.trans ?_ (Below.mono hw3 ?_)) | (with_reducible refine Below.trans ?_ (Below.mono hw4 ?_)) | (with_reducible refine Below.trans ?_ (Below.mono hw5 ?_)) | (with_reducible exact hw1.size) | (with_reducible exact hw2.size) | (with_reducible exact hw3.size) | (with_reducible exact hw4.size) | (with_reducible exact hw5.size) | omega | (simp <;> omega) | (simp <;> (have s := hw1.size; omega)) | (simp <;> (have s := hw2.size; omega)) | (simp <;> (have s := hw3.size; omega)) | (simp <;> (have s := hw4.size; omega)) | (simp <;> (have s := hw5.size; omega)) | (have s0 := hw1.size; (try simp at s0); have s1 := hw2.size; (try simp at s1); have s2 := hw3.size; (try simp at s2); have s3 := hw4.size; (try simp at s3); have s4 := hw5.size; (try simp at s4); (try simp); omega))))).mono ?_); clear c5; rintro e w6 ⟨rfl, hw6⟩; have hc6 := Tail.cells hw6; have s6 := hw6.size; (try simp at s6); (try have z6_0 : w.heap.size < w6.heap.size := (by omega)); (try have z6_1 : w.heap.size + 1 < w6.heap.size := (by omega)); (try have z6_2 : w1.heap.size < w6.heap.size := (by omega)); (try have z6_3 : w2.heap.size < w6.heap.size := (by omega)); (try have z6_4 : w3.heap.size < w6.heap.size := (by omega)); (try have z6_5 : w4.heap.size < w6.heap.size := (by omega)); (try have z6_6 : w5.heap.size < w6.heap.size := (by omega)); clear s6; have V6 := Lib.hid ((lies1n (x := y) (T := 34)).later hw6))
  go_wp2_with ((with_reducible refine (c6 _ _ _ (A2.out.later (by repeat (first | (with_reducible exact Below.refl _ _) | (with_reducible refine Below.setCell ?_ ?_ _) | (with_reducible refine Below.drew ?_) | (with_reducible refine Below.alloc ?_ ?_ _) | (with_reducible refine Below.trans ?_ (Below.mono hw3 ?_)) | (with_reducible refine Below.trans ?_ (Below.mono hw4 ?_)) | (with_reducible refine Below.trans ?_ (Below.mono hw5 ?_)) | (with_reducible refine Below.trans ?_ (Below.mono hw6 ?_)) | (with_reducible exact hw3.size) | (with_reducible exact hw4.size) | (with_reducible exact hw5.size) | (with_reducible exact hw6.size) | omega | (simp <;> omega) | (simp <;> (have s := hw3.size; omega)) | (simp <;> (have s := hw4.size; omega)) | (simp <;> (have s := hw5.size; omega)) | (simp <;> (have s := hw6.size; omega)) | (have s0 := hw3.size; (try simp at s0); have s1 := hw4.size; (try simp at s1); have s2 := hw5.size; (try simp at s2); have s3 := hw6.size; (try simp at s3); (try simp); omega)))) (P.out.later (by repeat (first | (with_reducible exact Below.refl _ _) | (with_reducible refine Below.setCell ?_ ?_ _) | (with_reducible refine Below.drew ?_) | (with_reducible refine Below.alloc ?_ ?_ _) | (with_reducible refine Below.trans ?_ (Below.mono hw1 ?_)) | (with_reducible refine Below.trans ?_ (Below.mono hw2 ?_)) | (with_reducible refine Below.trans ?_ (Below.mono hw3 ?_)) | (with_reducible refine Below.trans ?_ (Below.mono hw4 ?_)) | (with_reducible refine Below.trans ?_ (Below.mono hw5 ?_)) | (with_reducible refine Below.trans ?_ (Below.mono hw6 ?_)) | (with_reducible exact hw1.size) | (with_reducible exact hw2.size) | (with_reducible exact hw3.size) | (with_reducible exact hw4.size) | (with_reducible exact hw5.size) | (with_reducible exact hw6.size) | omega | (simp <;> omega) | (simp <;> (have s := hw1.size; omega)) | (simp <;> (have s := hw2.size; omega)) | (simp <;> (have s := hw3.size; omega)) | (simp <;> (have s := hw4.size; omega)) | (simp <;> (have s := hw5.size; omega)) | (simp <;> (have s := hw6.size; omega)) | (have s0 := hw1.size; (try simp at s0); have s1 := hw2.size; (try simp at s1); have s2 := hw3.size; (try simp at s2); have s3 := hw4.size; (try simp at s3); have s4 := hw5.size; (try simp at s4); have s5 := hw6.size; (try simp at s5); (try simp); omega))))).mono ?_); clear c6; rintro e w7 ⟨rfl, hw7⟩; have hc7 := Tail.cells hw7; have s7 := hw7.size; (try simp at s7); (try have z7_0 : w.heap.size < w7.heap.size := (by omega)); (try have z7_1 : w.heap.size + 1 < w7.heap.size := (by omega)); (try have z7_2 : w1.heap.size < w7.heap.size := (by omega)); (try have z7_3 : w2.heap.size < w7.heap.size := (by omega)); (try have z7_4 : w3.heap.size < w7.heap.size := (by omega)); (try have z7_5 : w4.heap.size < w7.heap.size := (by omega)); (try have z7_6 : w5.heap.size < w7.heap.size := (by omega)); (try have z7_7 : w6.heap.size < w7.heap.size := (by omega)); clear s7)
  have b7 : Below w.heap.size w (w7.alloc (.cells #[.int .i64 p1, .int .i64 p2] 47)) := by repeat (first | (with_reducible exact Below.refl _ _) | (with_reducible refine Below.setCell ?_ ?_ _) | (with_reducible refine Below.drew ?_) | (with_reducible refine Below.alloc ?_ ?_ _) | (with_reducible refine Below.trans ?_ (Below.mono hw7 ?_)) | (with_reducible refine Below.trans ?_ (Below.mono hw6 ?_)) | (with_reducible refine Below.trans ?_ (Below.mono hw5 ?_)) | (with_reducible refine Below.trans ?_ (Below.mono hw4 ?_)) | (with_reducible refine Below.trans ?_ (Below.mono hw3 ?_)) | (with_reducible refine Below.trans ?_ (Below.mono hw2 ?_)) | (with_reducible refine Below.trans ?_ (Below.mono hw1 ?_)) | (with_reducible exact hw7.size) | (with_reducible exact hw6.size) | (with_reducible exact hw5.size) | (with_reducible exact hw4.size) | (with_reducible exact hw3.size) | (with_reducible exact hw2.size) | (with_reducible exact hw1.size) | omega | (simp <;> omega) | (simp <;> (have s := hw7.size; omega)) | (simp <;> (have s := hw6.size; omega)) | (simp <;> (have s := hw5.size; omega)) | (simp <;> (have s := hw4.size; omega)) | (simp <;> (have s := hw3.size; omega)) | (simp <;> (have s := hw2.size; omega)) | (simp <;> (have s := hw1.size; omega)) | (have s0 := hw7.size; (try simp at s0); have s1 := hw6.size; (try simp at s1); have s2 := hw5.size; (try simp at s2); have s3 := hw4.size; (try simp at s3); have s4 := hw3.size; (try simp at s4); have s5 := hw2.size; (try simp at s5); have s6 := hw1.size; (try simp at s6); (try simp); omega))
  have p0 := held_belowG (show Below w1.heap.size w1 (w7.alloc (.cells #[.int .i64 p1, .int .i64 p2] 47)) by repeat (first | (with_reducible exact Below.refl _ _) | (with_reducible refine Below.setCell ?_ ?_ _) | (with_reducible refine Below.drew ?_) | (with_reducible refine Below.alloc ?_ ?_ _) | (with_reducible refine Below.trans ?_ (Below.mono hw7 ?_)) | (with_reducible refine Below.trans ?_ (Below.mono hw6 ?_)) | (with_reducible refine Below.trans ?_ (Below.mono hw5 ?_)) | (with_reducible refine Below.trans ?_ (Below.mono hw4 ?_)) | (with_reducible refine Below.trans ?_ (Below.mono hw3 ?_)) | (with_reducible refine Below.trans ?_ (Below.mono hw2 ?_)) | (with_reducible exact hw7.size) | (with_reducible exact hw6.size) | (with_reducible exact hw5.size) | (with_reducible exact hw4.size) | (with_reducible exact hw3.size) | (with_reducible exact hw2.size) | omega | (simp <;> omega) | (simp <;> (have s := hw7.size; omega)) | (simp <;> (have s := hw6.size; omega)) | (simp <;> (have s := hw5.size; omega)) | (simp <;> (have s := hw4.size; omega)) | (simp <;> (have s := hw3.size; omega)) | (simp <;> (have s := hw2.size; omega)) | (have s0 := hw7.size; (try simp at s0); have s1 := hw6.size; (try simp at s1); have s2 := hw5.size; (try simp at s2); have s3 := hw4.size; (try simp at s3); have s4 := hw3.size; (try simp at s4); have s5 := hw2.size; (try simp at s5); (try simp); omega))) hP1
  obtain ⟨l0, l1, l2, l3, l4⟩ := K.out.later b7 S z HS.out
  obtain ⟨m0, m1', m2', m3, m4⟩ := (U5.out.later (show Below w5.heap.size w5 (w7.alloc (.cells #[.int .i64 p1, .int .i64 p2] 47)) by repeat (first | (with_reducible exact Below.refl _ _) | (with_reducible refine Below.setCell ?_ ?_ _) | (with_reducible refine Below.drew ?_) | (with_reducible refine Below.alloc ?_ ?_ _) | (with_reducible refine Below.trans ?_ (Below.mono hw7 ?_)) | (with_reducible refine Below.trans ?_ (Below.mono hw6 ?_)) | (with_reducible exact hw7.size) | (with_reducible exact hw6.size) | omega | (simp <;> omega) | (simp <;> (have s := hw7.size; omega)) | (simp <;> (have s := hw6.size; omega)) | (have s0 := hw7.size; (try simp at s0); have s1 := hw6.size; (try simp at s1); (try simp); omega)))) 0 x rfl
  obtain ⟨n0, n1, n2, n3, n4⟩ := (V6.out.later (show Below w6.heap.size w6 (w7.alloc (.cells #[.int .i64 p1, .int .i64 p2] 47)) by repeat (first | (with_reducible exact Below.refl _ _) | (with_reducible refine Below.setCell ?_ ?_ _) | (with_reducible refine Below.drew ?_) | (with_reducible refine Below.alloc ?_ ?_ _) | (with_reducible refine Below.trans ?_ (Below.mono hw7 ?_)) | (with_reducible exact hw7.size) | omega | (simp <;> omega) | (simp <;> (have s := hw7.size; omega)) | (have s0 := hw7.size; (try simp at s0); (try simp); omega)))) 0 y rfl
  simp only [Nat.zero_add, Nat.zero_mul] at m0 m1' m2' m3 m4 n0 n1 n2 n3 n4
  clear hw1 hw2 hw3 hw4 hw5 hw6 hw7 hc1 hc2 hc3 hc4 hc5 hc6 hc7 U5 V6 A2 H K P hX0 hP1 HS
  generalize w7.alloc (.cells #[.int .i64 p1, .int .i64 p2] 47) = X at *
  have lb0 := World.block_lt_of_cell? _ _ p0
  have lb1 := World.block_lt_of_cell? _ _ l0
  have lb2 := World.block_lt_of_cell? _ _ m0
  have lb3 := World.block_lt_of_cell? _ _ n0
  refine Tail.region_below (by kernel_rfl) (by kernel_rfl) ?_
  have kc := @Tail.cell_re
  repeat (go_big_quiet_step (first | (with_reducible exact Calls.regrown_of (m1 _)) | (with_reducible exact Calls.regrown_of (m2 _)) | (with_reducible exact Calls.regrown_of (kn _))))
  refine wpQuiet_nil ?_
  intro w8 hw8
  go_wp2
  go_ret
  exact ⟨rfl, by repeat (first | (with_reducible exact Below.refl _ _) | (with_reducible refine Below.setCell ?_ ?_ _) | (with_reducible refine Below.drew ?_) | (with_reducible refine Below.alloc ?_ ?_ _) | (with_reducible refine Below.trans ?_ (Below.mono hw8 ?_)) | (with_reducible refine Below.trans ?_ (Below.mono b7 ?_)) | (with_reducible exact hw8.size) | (with_reducible exact b7.size) | omega | (simp <;> omega) | (simp <;> (have s := hw8.size; omega)) | (simp <;> (have s := b7.size; omega)) | (have s0 := hw8.size; (try simp at s0); have s1 := b7.size; (try simp at s1); (try simp); omega))⟩
theorem gaugeTraces_walk (a b c : Int) (ao : Option Addr) (L : List Q) (cap : Nat) (go : Option Addr) (G : List Q) (gc : Nat) (s : Int) (po : Option Addr) (l : List Int) (pc : Nat) (w : World) (_ : L.length ≤ maxLen) (hm : LiesO w ao L) (_ : G.length ≤ maxLen) (hg : LiesO w go G) (_ : l.length ≤ pc) (_ : pc ≤ maxLen) (hp : LiesOI w po l) : Calls Try.prog 5 #[.agg #[.int .i64 a, .int .i64 b, .int .i64 c, .slice ao L.length cap], .slice go G.length gc, .agg #[.int .i64 s, .slice po l.length pc]] w fun e w' => e = .returned (.bool true) ∧ Below w.heap.size w w' := by
  by_cases h : 200 < L.length
  · exact gTc_long a b c s ao go po cap gc pc L G l w h
  by_cases h2 : 100 < G.length
  · exact gTc_many a b c s ao go po cap gc pc L G l w (by omega) h2
  by_cases h3 : 100 < l.length
  · exact gTc_more a b c s ao go po cap gc pc L G l w (by omega) (by omega) h3
  obtain ⟨q, r2, k1, k2⟩ := closed_ans a b c s po pc l (by omega)
  rcases tr_ans a b c ao go cap gc L G (by omega) (by omega) with ⟨r, h0, k3, -⟩ | ⟨hr, hl⟩
  · exact gTc_out1 a b c s r r2 ao go po cap gc pc L G l w q (by omega) (by omega) (by omega) hm hg hp h0 (fun W l1 l2 => (k3 W l1 l2).mono fun e w' ⟨he, hb⟩ => ⟨⟨0, 0, 0, none, 0, 0, he⟩, hb⟩) k1
  have hF := gaR_Fl hr
  have hG := gaR_Gg hr
  have hpos := fld_pos (gaR_ok hr).1
  have hgp : 0 < G.length := by have := hG.n; omega
  obtain ⟨gl, goff, rfl, mg⟩ := liesO_some hg hgp
  have c1 : ∀ W : World, LiesO W ao L → Lies W gl goff G → Calls Try.prog 20 #[.agg #[.int .i64 a, .int .i64 b, .int .i64 c, .slice ao L.length cap], .slice (some ⟨gl, goff, none⟩) G.length gc] W fun e w' => RetTr a b c L.length (tfL a b c L G) e w' ∧ Below W.heap.size W w' := fun W l1 l2 => by
    obtain ⟨b1, o1, rfl, m1⟩ := liesO_some l1 hpos
    exact gaT_lim a b c b1 o1 gl goff cap gc L G W m1 l2 hr hl
  have c1' : ∀ W : World, LiesO W ao L → LiesO W (some ⟨gl, goff, none⟩) G → Calls Try.prog 20 #[.agg #[.int .i64 a, .int .i64 b, .int .i64 c, .slice ao L.length cap], .slice (some ⟨gl, goff, none⟩) G.length gc] W fun e w' => RetErr 0 e ∧ Below W.heap.size W w' := fun W l1 l2 => by
    have m2 : Lies W gl goff G := by
      rcases l2 with h | ⟨x, y, e, h⟩
      · rw [h] at hgp; exact absurd hgp (by simp)
      · cases e; exact h
    exact (c1 W l1 m2).mono fun e w' ⟨⟨g, k, he, _⟩, hb⟩ => ⟨⟨a, b, c, _, _, _, he⟩, hb⟩
  by_cases hr2 : r2 = 0
  · subst hr2
    cases q with
    | false => exact gTc_out3 a b c s 0 0 ao (some ⟨gl, goff, none⟩) po cap gc pc L G l w false (by omega) (by omega) (by omega) hm hg hp c1' k1
    | true =>
      obtain ⟨hk, hc⟩ := k2 rfl rfl
      have hf := (gaR_ok hr).1
      have hA : asR a b c L s l 0 := .inr ⟨hf, hk⟩
      have hB : asR a b c (tfL a b c L G) s l 0 := .inr ⟨tf_fldR hF hG hl, hk⟩
      obtain ⟨-, s0, s1, hs, h8⟩ := asR_ok hA
      obtain ⟨e1, e2⟩ := al_closed hF hG s0 s1 hs hc
      have hFT := (asR_ok hB).1
      have va := (hF.al s l s0 s1 hs h8).2
      have vb := (hFT.al s l s0 s1 hs h8).2
      have hn := hF.n
      have hgn := hG.n
      obtain ⟨S, rfl⟩ : ∃ S : Nat, s = (S : Int) := ⟨s.toNat, by omega⟩
      have hz := lk_at (L := G) (i := S) (by omega)
      have vz := hG.v _ _ hz
      have ln := va.le
      have ln' := vb.le
      refine gTc_ok a b c (tr (al a b c L S l)).1 (tr (al a b c L S l)).2 S ao po gl goff cap gc pc L G (tfL a b c L G) l (al a b c L S l) (al a b c (tfL a b c L G) S l) (lk G (S : Int)) _ w (by omega) (by omega) (by omega) hm mg hp hz c1 k1 ?_ ?_ ?_ ?_ (fun W => mul4_any _ _ W vz.1.u va.u (by omega) (by omega)) ?_
      · intro W l1 l2
        obtain ⟨b1, o1, rfl, m1⟩ := liesO_some l1 hpos
        exact alongO_ok a b c S b1 o1 po cap pc L l W m1 l2 hA
      · intro W g k l1 l2
        have := alongO_ok a b c S g 0 po k pc (tfL a b c L G) l W l1.h l2 hB
        rw [tfL_len] at this
        exact this
      · intro W l1 l2
        obtain ⟨b1, o1, rfl, m1⟩ := liesO_some l1 hpos
        exact traceL_ok a b c S b1 o1 po cap pc L l W m1 l2 hA hc
      · intro W g k l1 l2
        have := traceL_ok a b c S g 0 po k pc (tfL a b c L G) l W l1.h l2 hB hc
        rw [tfL_len, e1] at this
        exact this
      · intro W
        rw [e2]
        exact mul4_any _ _ W vb.u vz.1.u (by omega) (by omega)
  · exact gTc_out2 a b c s 0 r2 ao (some ⟨gl, goff, none⟩) po cap gc pc L G l w q (by omega) (by omega) (by omega) hm hg hp hr2 c1' k1

/-! ### The statement of the law GaugeTraces, out of its walk -/
set_option maxRecDepth 100000 in
theorem gaugeTraces_lifted (os : Os) (started : os.Started) (H : Type) (enc : TypeId × Value → H) :
    ReturnsInHanded {} Try.checked os 5 .any (Rows.gaugeTracesSpec.pre6 enc Try.prog Try.f5 Rows.gaugeTracesRow.domain false) (Rows.gaugeTracesSpec.post enc Try.prog Try.f5 false true false false) := by
  refine returnsInHanded_of_change (C := Try.checked) own started (by kernel_rfl) Try.func5
    (ChangeSpec.witness6 (enc := enc) (C := Try.checked) false ⟨#[], #[.agg #[.int .i64 0, .int .i64 0, .int .i64 0, .slice none 0 0], .slice none 0 0, .agg #[.int .i64 0, .slice none 0 0]], []⟩ 8 (by kernel_rfl) (by kernel_rfl) (by kernel_rfl) (by kernel_rfl)) ?_
  intro W base args ds gs before hval0 hW hcnd _
  have hval : ∀ (j : Nat) t v, Try.f5.params[j]? = some t → args[j]? = some v → Value.okWide Try.prog W .any base t v := hval0
  have hW' := hW
  obtain ⟨p, q, hA0, hV, rfl, hfz, hnd⟩ := hW
  have hA : DataW.TrodAll enc Try.prog W 0 (fun _ => true) true Try.f5.params.toList args.toList ds p := hA0
  rw [Try.params5] at hA hval
  obtain ⟨v0, vs0, d0, ds0, p0, q0, hargs, rfl, rfl, h0, r0⟩ := trodAll_cons hA
  obtain ⟨v1, vs1, d1, ds1, p1, q1, rfl, rfl, rfl, h1, r1⟩ := trodAll_cons r0
  obtain ⟨v2, vs2, d2, ds2, p2, q2, rfl, rfl, rfl, h2, r2⟩ := trodAll_cons r1
  obtain ⟨rfl, rfl, rfl⟩ := trodAll_nil r2
  obtain rfl : args = #[v0, v1, v2] := by cases args; simp_all
  obtain ⟨rfl, rfl⟩ := trodVars_none hV
  have k0 := h0
  have lt0 : ∀ x ∈ p0, x.block < W.heap.size := by obtain ⟨m, hm⟩ := k0; exact DataW.trod_lt m _ _ _ hm
  obtain ⟨x0, y0, z0, ao0, L0, cap0, rfl, hl0, hm0⟩ := open_field (hval 0 25 v0 rfl rfl) h0
  have k1 := h1
  have lt1 : ∀ x ∈ p1, x.block < W.heap.size := by obtain ⟨m, hm⟩ := k1; exact DataW.trod_lt m _ _ _ hm
  obtain ⟨ao1, L1, cap1, rfl, hl1, hm1⟩ := open_units (hval 1 23 v1 rfl rfl) h1
  have k2 := h2
  have lt2 : ∀ x ∈ p2, x.block < W.heap.size := by obtain ⟨m, hm⟩ := k2; exact DataW.trod_lt m _ _ _ hm
  obtain ⟨s2, ao2, l2, cap2, rfl, hl2, hc2, hm2⟩ := open_path4 (hval 2 41 v2 rfl rfl) h2
  clear hA0 hval0
  refine (gaugeTraces_walk x0 y0 z0 ao0 L0 cap0 ao1 L1 cap1 s2 ao2 l2 cap2 W hl0 hm0 hl1 hm1 hl2 hc2 hm2).mono fun e W' ⟨he, bel⟩ => ?_
  subst he
  exact ⟨_, rfl, _, _, _, [], _, [], hW', trodAll_mk1 (shut_bool Try.underlying4 _), (trodAll_cons_mk (Below.trod laidOut (by kernel_rfl) (of_decide_eq_true (by kernel_rfl)) k0 bel lt0) (trodAll_cons_mk (Below.trod laidOut (by kernel_rfl) (of_decide_eq_true (by kernel_rfl)) k1 bel lt1) (trodAll_cons_mk (Below.trod laidOut (by kernel_rfl) (of_decide_eq_true (by kernel_rfl)) k2 bel lt2) trodAll_mk0))), rfl, bel.frame _, fun h => by cases h⟩

theorem gaugeTraces_jf9 : (Rows.gaugeTracesRow.inPlace == Try.prog.inPlace 5) = true := by kernel_rfl
theorem gaugeTraces_jf10 : (Rows.gaugeTracesRow.unfollowed == Try.prog.unfollowed 5) = true := by kernel_rfl
theorem gaugeTraces_jf11 : (Rows.gaugeTracesRow.recurses == Try.prog.recurses 5) = true := by kernel_rfl
theorem gaugeTraces_jf12 : (Rows.gaugeTracesRow.named == Try.prog.varsNamed 5) = true := by kernel_rfl
theorem gaugeTraces_facts : joinedFacts Try.prog 5 Try.f5 Rows.gaugeTracesSpec Rows.gaugeTracesRow = true := by
  unfold joinedFacts
  exact (band (band (band (band (band (band (band (band (band (band (band (band (band (band (band (band (band (band (band (band (band (band (band (band (band (band (band (band (band (band (band (by kernel_rfl) jf1) jf2) (by kernel_rfl)) (by kernel_rfl)) (by kernel_rfl)) jf6) (by kernel_rfl)) jf8) gaugeTraces_jf9) gaugeTraces_jf10) gaugeTraces_jf11) gaugeTraces_jf12) (by kernel_rfl)) (by kernel_rfl)) (by kernel_rfl)) (by kernel_rfl)) (by kernel_rfl)) (by kernel_rfl)) (by kernel_rfl)) (by kernel_rfl)) (by kernel_rfl)) (by kernel_rfl)) (by kernel_rfl)) jf24) jf25) jf26) jf27) (by kernel_rfl)) (by kernel_rfl)) (by kernel_rfl)) (by kernel_rfl))

theorem gaugeTraces_over : Rows.gaugeTracesRow.holds Try.pinned (OpenSpec.ofChange Rows.gaugeTracesSpec) :=
  OpenClaim.holds_of_wide 5 Try.f5 rfl rfl rfl rfl rfl rfl rfl ⟨rfl, rfl, rfl, rfl, rfl⟩ rfl rfl rfl rfl rfl (by kernel_rfl) Try.func5 gaugeTraces_facts
    (of_decide_eq_true (by kernel_rfl)) (by unfold Func.isWrapper; first | (rw [if_pos (by decide +kernel)]; kernel_rfl) | (rw [if_neg (by decide +kernel)]; exact ⟨rfl, rfl⟩))
    (fun os started H enc _ => gaugeTraces_lifted os started H enc)

theorem gaugeTraces_holds : Rows.GaugeTracesSaid := gaugeTraces_over
#print axioms gaugeTraces_holds

end Go.Proofs.Ytegeamfacajeeaa
