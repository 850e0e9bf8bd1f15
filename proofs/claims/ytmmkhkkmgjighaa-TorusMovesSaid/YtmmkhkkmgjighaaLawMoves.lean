/- TorusMoves: the unit along a path goes with a field that is shifted, for all fields, paths and numbers.
Conditions: none. -/
import Derived.Test.YtmmkhkkmgjighaaMovC
import Derived.Test.YtmmkhkkmgjighaaAlongC
import Derived.Test.YtmmkhkkmgjighaaOpen4
import Derived.Test.YtmmkhkkmgjighaaJFacts
namespace Go.Proofs.Ytmmkhkkmgjighaa
set_option linter.unusedVariables false
set_option linter.unusedSimpArgs false
set_option maxRecDepth 1000000
open Go.ChangeShapes Go.WideShapes Go.ChangeAt Go.RowKit
open Um Tm

theorem tmod100M (x : Int) : -100 < x.tmod 100 ∧ x.tmod 100 < 100 := by
  have := rem_bnd x 100 (by omega)
  exact this

set_option maxHeartbeats 800000 in
theorem torusMoves_longF (a b c s u v t : Int) (fo ao : Option Addr) (n cap m pc : Nat) (w : World) (hn : 100 < n) : Calls Try.prog 6 #[.agg #[.int .i64 a, .int .i64 b, .int .i64 c, .slice fo n cap], .agg #[.int .i64 s, .slice ao m pc], .agg #[.int .i64 u, .int .i64 v, .int .i64 t]] w fun e w' => e = .returned (.bool true) ∧ Below w.heap.size w w' := by
  have kn := known2_any
  have lg := fun W : World => long_any a b c fo cap n true W (.inr ⟨hn, rfl⟩)
  go_enter Try.func6, Try.ntmps6
  go_wp2_with (first | ((with_reducible refine (lg _).mono ?_); rintro e w1 ⟨rfl, hw1⟩; have hc1 := Tail.cells hw1; have s1 := hw1.size; (try simp at s1); (try have z1_0 : w.heap.size < w1.heap.size := (by omega)); (try have z1_1 : w.heap.size + 1 < w1.heap.size := (by omega)); (try have z1_2 : w.heap.size + 2 < w1.heap.size := (by omega)); clear s1) | ((with_reducible refine (kn _).mono ?_); rintro e w2 ⟨rfl, hw2⟩; have hc2 := Tail.cells hw2; have s2 := hw2.size; (try simp at s2); (try have z2_0 : w.heap.size < w2.heap.size := (by omega)); (try have z2_1 : w.heap.size + 1 < w2.heap.size := (by omega)); (try have z2_2 : w.heap.size + 2 < w2.heap.size := (by omega)); (try have z2_3 : w1.heap.size < w2.heap.size := (by omega)); clear s2))
  go_ret
  exact ⟨rfl, by repeat (first | (with_reducible exact Below.refl _ _) | (with_reducible refine Below.setCell ?_ ?_ _) | (with_reducible refine Below.drew ?_) | (with_reducible refine Below.alloc ?_ ?_ _) | (with_reducible refine Below.trans ?_ (Below.mono hw2 ?_)) | (with_reducible refine Below.trans ?_ (Below.mono hw1 ?_)) | (with_reducible exact hw2.size) | (with_reducible exact hw1.size) | omega | (simp <;> omega) | (simp <;> (have s := hw2.size; omega)) | (simp <;> (have s := hw1.size; omega)) | (have s0 := hw2.size; (try simp at s0); have s1 := hw1.size; (try simp at s1); (try simp); omega))⟩
set_option maxHeartbeats 800000 in
theorem torusMoves_longP (a b c s u v t : Int) (fo ao : Option Addr) (n cap m pc : Nat) (w : World) (hn : n ≤ 100) (hm : 100 < m) : Calls Try.prog 6 #[.agg #[.int .i64 a, .int .i64 b, .int .i64 c, .slice fo n cap], .agg #[.int .i64 s, .slice ao m pc], .agg #[.int .i64 u, .int .i64 v, .int .i64 t]] w fun e w' => e = .returned (.bool true) ∧ Below w.heap.size w w' := by
  have kn := known2_any
  have lg := fun W : World => long_any a b c fo cap n false W (.inl ⟨hn, rfl⟩)
  have hm' : (100 : Int) < (m : Int) := by omega
  go_enter Try.func6, Try.ntmps6
  go_wp2_with (first | ((with_reducible refine (lg _).mono ?_); rintro e w1 ⟨rfl, hw1⟩; have hc1 := Tail.cells hw1; have s1 := hw1.size; (try simp at s1); (try have z1_0 : w.heap.size < w1.heap.size := (by omega)); (try have z1_1 : w.heap.size + 1 < w1.heap.size := (by omega)); (try have z1_2 : w.heap.size + 2 < w1.heap.size := (by omega)); clear s1) | ((with_reducible refine (kn _).mono ?_); rintro e w2 ⟨rfl, hw2⟩; have hc2 := Tail.cells hw2; have s2 := hw2.size; (try simp at s2); (try have z2_0 : w.heap.size < w2.heap.size := (by omega)); (try have z2_1 : w.heap.size + 1 < w2.heap.size := (by omega)); (try have z2_2 : w.heap.size + 2 < w2.heap.size := (by omega)); (try have z2_3 : w1.heap.size < w2.heap.size := (by omega)); clear s2))
  go_ret
  exact ⟨rfl, by repeat (first | (with_reducible exact Below.refl _ _) | (with_reducible refine Below.setCell ?_ ?_ _) | (with_reducible refine Below.drew ?_) | (with_reducible refine Below.alloc ?_ ?_ _) | (with_reducible refine Below.trans ?_ (Below.mono hw2 ?_)) | (with_reducible refine Below.trans ?_ (Below.mono hw1 ?_)) | (with_reducible exact hw2.size) | (with_reducible exact hw1.size) | omega | (simp <;> omega) | (simp <;> (have s := hw2.size; omega)) | (simp <;> (have s := hw1.size; omega)) | (have s0 := hw2.size; (try simp at s0); have s1 := hw1.size; (try simp at s1); (try simp); omega))⟩
set_option maxHeartbeats 1600000 in
theorem torusMoves_err (a b c s r u v t : Int) (fo ao : Option Addr) (L : List Q) (l : List Int) (cap pc : Nat) (w : World) (hn : L.length ≤ 100) (hm : l.length ≤ 100) (hL : LiesO w fo L) (hl : LiesOI w ao l) (hr : asR a b c L s l r) (h0 : r ≠ 0) : Calls Try.prog 6 #[.agg #[.int .i64 a, .int .i64 b, .int .i64 c, .slice fo L.length cap], .agg #[.int .i64 s, .slice ao l.length pc], .agg #[.int .i64 u, .int .i64 v, .int .i64 t]] w fun e w' => e = .returned (.bool true) ∧ Below w.heap.size w w' := by
  have kn := known2_any
  have lg := fun W : World => long_any a b c fo cap L.length false W (.inl ⟨hn, rfl⟩)
  have c1 := fun (W : World) (h1 : LiesO W fo L) (h2 : LiesOI W ao l) => alongO_bad a b c s r fo ao cap pc L l W h1 h2 hr h0 (by omega) (by omega)
  have q1 : (r == 0) = false := by simpa using h0
  have q2 : (r != 0) = true := by simpa using h0
  have hm' : ¬ (100 : Int) < (l.length : Int) := by omega
  have H := Lib.hid hL
  have HP := Lib.hid hl
  clear hL hl hn hm hr h0
  go_enter Try.func6, Try.ntmps6
  go_wp2_with (first | ((with_reducible refine (lg _).mono ?_); rintro e w1 ⟨rfl, hw1⟩; have hc1 := Tail.cells hw1; have s1 := hw1.size; (try simp at s1); (try have z1_0 : w.heap.size < w1.heap.size := (by omega)); (try have z1_1 : w.heap.size + 1 < w1.heap.size := (by omega)); (try have z1_2 : w.heap.size + 2 < w1.heap.size := (by omega)); clear s1) | ((with_reducible refine (c1 _ (H.out.later (by repeat (first | (with_reducible exact Below.refl _ _) | (with_reducible refine Below.setCell ?_ ?_ _) | (with_reducible refine Below.drew ?_) | (with_reducible refine Below.alloc ?_ ?_ _) | (with_reducible refine Below.trans ?_ (Below.mono hw1 ?_)) | (with_reducible exact hw1.size) | omega | (simp <;> omega) | (simp <;> (have s := hw1.size; omega)) | (have s0 := hw1.size; (try simp at s0); (try simp); omega)))) (HP.out.later (by repeat (first | (with_reducible exact Below.refl _ _) | (with_reducible refine Below.setCell ?_ ?_ _) | (with_reducible refine Below.drew ?_) | (with_reducible refine Below.alloc ?_ ?_ _) | (with_reducible refine Below.trans ?_ (Below.mono hw1 ?_)) | (with_reducible exact hw1.size) | omega | (simp <;> omega) | (simp <;> (have s := hw1.size; omega)) | (have s0 := hw1.size; (try simp at s0); (try simp); omega))))).mono ?_); rintro e w2 ⟨rfl, hw2⟩; have hc2 := Tail.cells hw2; have s2 := hw2.size; (try simp at s2); (try have z2_0 : w.heap.size < w2.heap.size := (by omega)); (try have z2_1 : w.heap.size + 1 < w2.heap.size := (by omega)); (try have z2_2 : w.heap.size + 2 < w2.heap.size := (by omega)); (try have z2_3 : w1.heap.size < w2.heap.size := (by omega)); clear s2) | ((with_reducible refine (kn _).mono ?_); rintro e w3 ⟨rfl, hw3⟩; have hc3 := Tail.cells hw3; have s3 := hw3.size; (try simp at s3); (try have z3_0 : w.heap.size < w3.heap.size := (by omega)); (try have z3_1 : w.heap.size + 1 < w3.heap.size := (by omega)); (try have z3_2 : w.heap.size + 2 < w3.heap.size := (by omega)); (try have z3_3 : w1.heap.size < w3.heap.size := (by omega)); (try have z3_4 : w2.heap.size < w3.heap.size := (by omega)); clear s3))
  go_ret
  exact ⟨rfl, by repeat (first | (with_reducible exact Below.refl _ _) | (with_reducible refine Below.setCell ?_ ?_ _) | (with_reducible refine Below.drew ?_) | (with_reducible refine Below.alloc ?_ ?_ _) | (with_reducible refine Below.trans ?_ (Below.mono hw3 ?_)) | (with_reducible refine Below.trans ?_ (Below.mono hw2 ?_)) | (with_reducible refine Below.trans ?_ (Below.mono hw1 ?_)) | (with_reducible exact hw3.size) | (with_reducible exact hw2.size) | (with_reducible exact hw1.size) | omega | (simp <;> omega) | (simp <;> (have s := hw3.size; omega)) | (simp <;> (have s := hw2.size; omega)) | (simp <;> (have s := hw1.size; omega)) | (have s0 := hw3.size; (try simp at s0); have s1 := hw2.size; (try simp at s1); have s2 := hw1.size; (try simp at s2); (try simp); omega))⟩

set_option maxHeartbeats 6400000 in
theorem torusMoves_ok (a b c s u v t : Int) (bl off : Nat) (ao : Option Addr) (L : List Q) (l : List Int) (cap pc : Nat) (w : World) (hn : L.length ≤ 100) (hm : l.length ≤ 100) (hL : Lies w bl off L) (hl : LiesOI w ao l) (hr : asR a b c L s l 0) : Calls Try.prog 6 #[.agg #[.int .i64 a, .int .i64 b, .int .i64 c, .slice (some ⟨bl, off, none⟩) L.length cap], .agg #[.int .i64 s, .slice ao l.length pc], .agg #[.int .i64 u, .int .i64 v, .int .i64 t]] w fun e w' => e = .returned (.bool true) ∧ Below w.heap.size w w' := by
  have kn := known2_any
  have lg := fun W : World => long_any a b c (some ⟨bl, off, none⟩) cap L.length false W (.inl ⟨hn, rfl⟩)
  obtain ⟨hF, s0, s1, hst, h8⟩ := asR_ok hr
  have hz := hF.z
  have hp16 := hz.p
  have dA := shL_shd (x := u.tmod 100) (y := v.tmod 100) (z := t.tmod 100) hz hF.n
  have hFA := dA.fl hF
  have lA : (shL a b c (u.tmod 100) (v.tmod 100) (t.tmod 100) L).length = L.length := shL_len ..
  have hsr := sh_rng hz (u.tmod 100) (v.tmod 100) (t.tmod 100) s
  have eA := dA.al hz s0 s1 l hst
  have hrA : asR a b c (shL a b c (u.tmod 100) (v.tmod 100) (t.tmod 100) L) (sh a b c (u.tmod 100) (v.tmod 100) (t.tmod 100) s) l 0 := by
    obtain ⟨-, hw⟩ | ⟨hf, hw⟩ := hr
    · exact absurd rfl hw
    · exact .inr ⟨Fl_fldR hFA, by
        rcases hw with ⟨-, k⟩ | ⟨-, -, -, h⟩
        · exact absurd rfl k
        · exact .inr ⟨hz, hsr.1, hsr.2, h⟩⟩
  have c1 := fun (W : World) (h1 : Lies W bl off L) (h2 : LiesOI W ao l) => alongO_ok a b c s bl off ao cap pc L l W h1 h2 hr
  have c2 := fun (W : World) (h1 : Lies W bl off L) => shift_ok a b c (u.tmod 100) (v.tmod 100) (t.tmod 100) bl off cap L W h1 hF
  have c3 := fun W : World => place_any a b c s (s % a) (s / a % b) (s / a / b) 0 W (.inr (.inr ⟨hz, s0, s1, rfl, rfl, rfl, rfl⟩))
  have c4 := fun W : World => site_any a b c (s % a + u.tmod 100) (s / a % b + v.tmod 100) (s / a / b + t.tmod 100) (sh a b c (u.tmod 100) (v.tmod 100) (t.tmod 100) s) 0 W (.inr ⟨hz, rfl, rfl⟩)
  have c5 := fun (g k : Nat) (W : World) (h1 : Lies W g 0 (shL a b c (u.tmod 100) (v.tmod 100) (t.tmod 100) L)) (h2 : LiesOI W ao l) => alongO_ok a b c (sh a b c (u.tmod 100) (v.tmod 100) (t.tmod 100) s) g 0 ao k pc _ l W h1 h2 hrA
  rw [eA, lA] at c5
  obtain ⟨-, s16, -, -, e0, e1, m0, m4, k0, k4⟩ := div_rng hz s0 s1
  obtain ⟨u1, u2⟩ := tmod100M u
  obtain ⟨v1, v2⟩ := tmod100M v
  obtain ⟨t1, t2⟩ := tmod100M t
  have hm' : ¬ (100 : Int) < (l.length : Int) := by omega
  generalize shL a b c (u.tmod 100) (v.tmod 100) (t.tmod 100) L = A at *
  generalize sh a b c (u.tmod 100) (v.tmod 100) (t.tmod 100) s = q at *
  generalize al a b c L s l = y at *
  generalize s % a = pa at *
  generalize s / a % b = pb at *
  generalize s / a / b = pc' at *
  have qx : ∀ W, Sem.run Try.prog (Op.equalIn 10000 32 (.agg #[.int .i64 y.a, .int .i64 y.b, .int .i64 y.c, .int .i64 y.d, .int .i64 y.n]) (.agg #[.int .i64 y.a, .int .i64 y.b, .int .i64 y.c, .int .i64 y.d, .int .i64 y.n])) W = .ok true W := fun W => by simpa using eqU y y W
  have H := Lib.hid hL
  have HP := Lib.hid hl
  clear hL hl hn hm hr hF hFA dA hrA eA lA hsr hz hp16 s0 s1 hst h8
  have kc := @Tail.cell_re; have kc1 : ∀ (W : World) (o : Obj) (d : Nat) (os : Array Obj) (a : Addr), a.block ≤ W.heap.size → (Sort.grow (redrawn (W.alloc o) d) os).cell? a = (W.alloc o).cell? a := fun W o d os a h => Tail.cell_re (W.alloc o) d os a (Nat.lt_of_le_of_lt h (by simp))
  go_enter Try.func6, Try.ntmps6
  go_wp2_with (first | ((with_reducible refine (lg _).mono ?_); rintro e w1 ⟨rfl, hw1⟩; have hc1 := Tail.cells hw1; have s1 := hw1.size; (try simp at s1); (try have z1_0 : w.heap.size < w1.heap.size := (by omega)); (try have z1_1 : w.heap.size + 1 < w1.heap.size := (by omega)); (try have z1_2 : w.heap.size + 2 < w1.heap.size := (by omega)); clear s1) | ((with_reducible refine (c1 _ (H.out.later (by repeat (first | (with_reducible exact Below.refl _ _) | (with_reducible refine Below.setCell ?_ ?_ _) | (with_reducible refine Below.drew ?_) | (with_reducible refine Below.alloc ?_ ?_ _) | (with_reducible refine Below.trans ?_ (Below.mono hw1 ?_)) | (with_reducible exact hw1.size) | omega | (simp <;> omega) | (simp <;> (have s := hw1.size; omega)) | (have s0 := hw1.size; (try simp at s0); (try simp); omega)))) (HP.out.later (by repeat (first | (with_reducible exact Below.refl _ _) | (with_reducible refine Below.setCell ?_ ?_ _) | (with_reducible refine Below.drew ?_) | (with_reducible refine Below.alloc ?_ ?_ _) | (with_reducible refine Below.trans ?_ (Below.mono hw1 ?_)) | (with_reducible exact hw1.size) | omega | (simp <;> omega) | (simp <;> (have s := hw1.size; omega)) | (have s0 := hw1.size; (try simp at s0); (try simp); omega))))).mono ?_); rintro e w2 ⟨rfl, hw2⟩; have hc2 := Tail.cells hw2; have s2 := hw2.size; (try simp at s2); (try have z2_0 : w.heap.size < w2.heap.size := (by omega)); (try have z2_1 : w.heap.size + 1 < w2.heap.size := (by omega)); (try have z2_2 : w.heap.size + 2 < w2.heap.size := (by omega)); (try have z2_3 : w1.heap.size < w2.heap.size := (by omega)); clear s2; clear c1))
  refine Tail.region_below (by kernel_rfl) (by kernel_rfl) ?_
  repeat (go_big_quiet_step (fail))
  refine wpQuiet_nil ?_
  intro w3 hw3
  have hc3 := Tail.cells hw3
  have s3 := hw3.size
  simp at s3
  have z3_0 : w.heap.size < w3.heap.size := by omega
  have z3_1 : w.heap.size + 1 < w3.heap.size := by omega
  have z3_2 : w.heap.size + 2 < w3.heap.size := by omega
  have z3_4 : w2.heap.size < w3.heap.size := by omega
  clear s3 kc kc1
  go_wp2_with (first | ((with_reducible refine (c2 _ (H.out.later (by repeat (first | (with_reducible exact Below.refl _ _) | (with_reducible refine Below.setCell ?_ ?_ _) | (with_reducible refine Below.drew ?_) | (with_reducible refine Below.alloc ?_ ?_ _) | (with_reducible refine Below.trans ?_ (Below.mono hw3 ?_)) | (with_reducible refine Below.trans ?_ (Below.mono hw2 ?_)) | (with_reducible refine Below.trans ?_ (Below.mono hw1 ?_)) | (with_reducible exact hw3.size) | (with_reducible exact hw2.size) | (with_reducible exact hw1.size) | omega | (simp <;> omega) | (simp <;> (have s := hw3.size; omega)) | (simp <;> (have s := hw2.size; omega)) | (simp <;> (have s := hw1.size; omega)) | (have s0 := hw3.size; (try simp at s0); have s1 := hw2.size; (try simp at s1); have s2 := hw1.size; (try simp at s2); (try simp); omega))))).mono ?_); rintro e w4 ⟨gA, kA, rfl, hA, hw4⟩; have hc4 := Tail.cells hw4; have s4 := hw4.size; (try simp at s4); (try have z4_0 : w.heap.size < w4.heap.size := (by omega)); (try have z4_1 : w.heap.size + 1 < w4.heap.size := (by omega)); (try have z4_2 : w.heap.size + 2 < w4.heap.size := (by omega)); (try have z4_3 : w1.heap.size < w4.heap.size := (by omega)); (try have z4_4 : w2.heap.size < w4.heap.size := (by omega)); (try have z4_5 : w3.heap.size < w4.heap.size := (by omega)); clear s4; have HA := Lib.hid hA; clear hA c2) | ((with_reducible refine (c3 _).mono ?_); rintro e w5 ⟨rfl, hw5⟩; have hc5 := Tail.cells hw5; have s5 := hw5.size; (try simp at s5); (try have z5_0 : w.heap.size < w5.heap.size := (by omega)); (try have z5_1 : w.heap.size + 1 < w5.heap.size := (by omega)); (try have z5_2 : w.heap.size + 2 < w5.heap.size := (by omega)); (try have z5_3 : w1.heap.size < w5.heap.size := (by omega)); (try have z5_4 : w2.heap.size < w5.heap.size := (by omega)); (try have z5_5 : w3.heap.size < w5.heap.size := (by omega)); (try have z5_6 : w4.heap.size < w5.heap.size := (by omega)); clear s5; clear c3) | ((with_reducible refine (c4 _).mono ?_); rintro e w6 ⟨rfl, hw6⟩; have hc6 := Tail.cells hw6; have s6 := hw6.size; (try simp at s6); (try have z6_0 : w.heap.size < w6.heap.size := (by omega)); (try have z6_1 : w.heap.size + 1 < w6.heap.size := (by omega)); (try have z6_2 : w.heap.size + 2 < w6.heap.size := (by omega)); (try have z6_3 : w1.heap.size < w6.heap.size := (by omega)); (try have z6_4 : w2.heap.size < w6.heap.size := (by omega)); (try have z6_5 : w3.heap.size < w6.heap.size := (by omega)); (try have z6_6 : w4.heap.size < w6.heap.size := (by omega)); (try have z6_7 : w5.heap.size < w6.heap.size := (by omega)); clear s6; clear c4) | ((with_reducible refine (c5 _ _ _ (HA.out.later (by repeat (first | (with_reducible exact Below.refl _ _) | (with_reducible refine Below.setCell ?_ ?_ _) | (with_reducible refine Below.drew ?_) | (with_reducible refine Below.alloc ?_ ?_ _) | (with_reducible refine Below.trans ?_ (Below.mono hw6 ?_)) | (with_reducible refine Below.trans ?_ (Below.mono hw5 ?_)) | (with_reducible exact hw6.size) | (with_reducible exact hw5.size) | omega | (simp <;> omega) | (simp <;> (have s := hw6.size; omega)) | (simp <;> (have s := hw5.size; omega)) | (have s0 := hw6.size; (try simp at s0); have s1 := hw5.size; (try simp at s1); (try simp); omega)))) (HP.out.later (by repeat (first | (with_reducible exact Below.refl _ _) | (with_reducible refine Below.setCell ?_ ?_ _) | (with_reducible refine Below.drew ?_) | (with_reducible refine Below.alloc ?_ ?_ _) | (with_reducible refine Below.trans ?_ (Below.mono hw6 ?_)) | (with_reducible refine Below.trans ?_ (Below.mono hw5 ?_)) | (with_reducible refine Below.trans ?_ (Below.mono hw4 ?_)) | (with_reducible refine Below.trans ?_ (Below.mono hw3 ?_)) | (with_reducible refine Below.trans ?_ (Below.mono hw2 ?_)) | (with_reducible refine Below.trans ?_ (Below.mono hw1 ?_)) | (with_reducible exact hw6.size) | (with_reducible exact hw5.size) | (with_reducible exact hw4.size) | (with_reducible exact hw3.size) | (with_reducible exact hw2.size) | (with_reducible exact hw1.size) | omega | (simp <;> omega) | (simp <;> (have s := hw6.size; omega)) | (simp <;> (have s := hw5.size; omega)) | (simp <;> (have s := hw4.size; omega)) | (simp <;> (have s := hw3.size; omega)) | (simp <;> (have s := hw2.size; omega)) | (simp <;> (have s := hw1.size; omega)) | (have s0 := hw6.size; (try simp at s0); have s1 := hw5.size; (try simp at s1); have s2 := hw4.size; (try simp at s2); have s3 := hw3.size; (try simp at s3); have s4 := hw2.size; (try simp at s4); have s5 := hw1.size; (try simp at s5); (try simp); omega))))).mono ?_); rintro e w7 ⟨rfl, hw7⟩; have hc7 := Tail.cells hw7; have s7 := hw7.size; (try simp at s7); (try have z7_0 : w.heap.size < w7.heap.size := (by omega)); (try have z7_1 : w.heap.size + 1 < w7.heap.size := (by omega)); (try have z7_2 : w.heap.size + 2 < w7.heap.size := (by omega)); (try have z7_3 : w1.heap.size < w7.heap.size := (by omega)); (try have z7_4 : w2.heap.size < w7.heap.size := (by omega)); (try have z7_5 : w3.heap.size < w7.heap.size := (by omega)); (try have z7_6 : w4.heap.size < w7.heap.size := (by omega)); (try have z7_7 : w5.heap.size < w7.heap.size := (by omega)); (try have z7_8 : w6.heap.size < w7.heap.size := (by omega)); clear s7; clear c5) | ((with_reducible refine (kn _).mono ?_); rintro e w8 ⟨rfl, hw8⟩; have hc8 := Tail.cells hw8; have s8 := hw8.size; (try simp at s8); (try have z8_0 : w.heap.size < w8.heap.size := (by omega)); (try have z8_1 : w.heap.size + 1 < w8.heap.size := (by omega)); (try have z8_2 : w.heap.size + 2 < w8.heap.size := (by omega)); (try have z8_3 : w1.heap.size < w8.heap.size := (by omega)); (try have z8_4 : w2.heap.size < w8.heap.size := (by omega)); (try have z8_5 : w3.heap.size < w8.heap.size := (by omega)); (try have z8_6 : w4.heap.size < w8.heap.size := (by omega)); (try have z8_7 : w5.heap.size < w8.heap.size := (by omega)); (try have z8_8 : w6.heap.size < w8.heap.size := (by omega)); (try have z8_9 : w7.heap.size < w8.heap.size := (by omega)); clear s8))
  go_ret
  exact ⟨rfl, by repeat (first | (with_reducible exact Below.refl _ _) | (with_reducible refine Below.setCell ?_ ?_ _) | (with_reducible refine Below.drew ?_) | (with_reducible refine Below.alloc ?_ ?_ _) | (with_reducible refine Below.trans ?_ (Below.mono hw8 ?_)) | (with_reducible refine Below.trans ?_ (Below.mono hw7 ?_)) | (with_reducible refine Below.trans ?_ (Below.mono hw6 ?_)) | (with_reducible refine Below.trans ?_ (Below.mono hw5 ?_)) | (with_reducible refine Below.trans ?_ (Below.mono hw4 ?_)) | (with_reducible refine Below.trans ?_ (Below.mono hw3 ?_)) | (with_reducible refine Below.trans ?_ (Below.mono hw2 ?_)) | (with_reducible refine Below.trans ?_ (Below.mono hw1 ?_)) | (with_reducible exact hw8.size) | (with_reducible exact hw7.size) | (with_reducible exact hw6.size) | (with_reducible exact hw5.size) | (with_reducible exact hw4.size) | (with_reducible exact hw3.size) | (with_reducible exact hw2.size) | (with_reducible exact hw1.size) | omega | (simp <;> omega) | (simp <;> (have s := hw8.size; omega)) | (simp <;> (have s := hw7.size; omega)) | (simp <;> (have s := hw6.size; omega)) | (simp <;> (have s := hw5.size; omega)) | (simp <;> (have s := hw4.size; omega)) | (simp <;> (have s := hw3.size; omega)) | (simp <;> (have s := hw2.size; omega)) | (simp <;> (have s := hw1.size; omega)) | (have s0 := hw8.size; (try simp at s0); have s1 := hw7.size; (try simp at s1); have s2 := hw6.size; (try simp at s2); have s3 := hw5.size; (try simp at s3); have s4 := hw4.size; (try simp at s4); have s5 := hw3.size; (try simp at s5); have s6 := hw2.size; (try simp at s6); have s7 := hw1.size; (try simp at s7); (try simp); omega))⟩

theorem torusMoves_walk (a b c : Int) (fo : Option Addr) (L : List Q) (cap : Nat) (s : Int) (ao : Option Addr) (l : List Int) (pc : Nat) (u v t : Int) (w : World) (hc : L.length ≤ maxLen) (hL : LiesO w fo L) (hlc : l.length ≤ pc) (hpc : pc ≤ maxLen) (hl : LiesOI w ao l) : Calls Try.prog 6 #[.agg #[.int .i64 a, .int .i64 b, .int .i64 c, .slice fo L.length cap], .agg #[.int .i64 s, .slice ao l.length pc], .agg #[.int .i64 u, .int .i64 v, .int .i64 t]] w fun e w' => e = .returned (.bool true) ∧ Below w.heap.size w w' := by
  by_cases hn : 100 < L.length
  · exact torusMoves_longF a b c s u v t fo ao _ cap _ pc w hn
  · by_cases hm : 100 < l.length
    · exact torusMoves_longP a b c s u v t fo ao _ cap _ pc w (by omega) hm
    · obtain ⟨r, hr⟩ := asR_ex a b c L s l
      by_cases h0 : r = 0
      · subst h0
        obtain ⟨bl, off, rfl, hli⟩ := fld_some (Fl_fldR (asR_ok hr).1) hL
        exact torusMoves_ok a b c s u v t bl off ao L l cap pc w (by omega) (by omega) hli hl hr
      · exact torusMoves_err a b c s r u v t fo ao L l cap pc w (by omega) (by omega) hL hl hr h0

/-! ### The statement of the law TorusMoves, out of its walk -/
set_option maxRecDepth 100000 in
theorem torusMoves_lifted (os : Os) (started : os.Started) (H : Type) (enc : TypeId × Value → H) :
    ReturnsInHanded {} Try.checked os 6 .any (Rows.torusMovesSpec.pre6 enc Try.prog Try.f6 Rows.torusMovesRow.domain false) (Rows.torusMovesSpec.post enc Try.prog Try.f6 false true false false) := by
  refine returnsInHanded_of_change (C := Try.checked) own started (by kernel_rfl) Try.func6
    (ChangeSpec.witness6 (enc := enc) (C := Try.checked) false ⟨#[], #[.agg #[.int .i64 0, .int .i64 0, .int .i64 0, .slice none 0 0], .agg #[.int .i64 0, .slice none 0 0], .agg #[.int .i64 0, .int .i64 0, .int .i64 0]], []⟩ 8 (by kernel_rfl) (by kernel_rfl) (by kernel_rfl) (by kernel_rfl)) ?_
  intro W base args ds gs before hval0 hW hcnd _
  have hval : ∀ (j : Nat) t v, Try.f6.params[j]? = some t → args[j]? = some v → Value.okWide Try.prog W .any base t v := hval0
  have hW' := hW
  obtain ⟨p, q, hA0, hV, rfl, hfz, hnd⟩ := hW
  have hA : DataW.TrodAll enc Try.prog W 0 (fun _ => true) true Try.f6.params.toList args.toList ds p := hA0
  rw [Try.params6] at hA hval
  obtain ⟨v0, vs0, d0, ds0, p0, q0, hargs, rfl, rfl, h0, r0⟩ := trodAll_cons hA
  obtain ⟨v1, vs1, d1, ds1, p1, q1, rfl, rfl, rfl, h1, r1⟩ := trodAll_cons r0
  obtain ⟨v2, vs2, d2, ds2, p2, q2, rfl, rfl, rfl, h2, r2⟩ := trodAll_cons r1
  obtain ⟨rfl, rfl, rfl⟩ := trodAll_nil r2
  obtain rfl : args = #[v0, v1, v2] := by cases args; simp_all
  obtain ⟨rfl, rfl⟩ := trodVars_none hV
  have k0 := h0
  have lt0 : ∀ x ∈ p0, x.block < W.heap.size := by obtain ⟨m, hm⟩ := k0; exact DataW.trod_lt m _ _ _ hm
  obtain ⟨x0, y0, z0, ao0, L0, cap0, rfl, hl0, hm0⟩ := open_field (hval 0 25 v0 rfl rfl) h0
  have k1 := h1
  have lt1 : ∀ x ∈ p1, x.block < W.heap.size := by obtain ⟨m, hm⟩ := k1; exact DataW.trod_lt m _ _ _ hm
  obtain ⟨s1, ao1, l1, cap1, rfl, hl1, hc1, hm1⟩ := open_path (hval 1 41 v1 rfl rfl) h1
  have k2 := h2
  have lt2 : ∀ x ∈ p2, x.block < W.heap.size := by obtain ⟨m, hm⟩ := k2; exact DataW.trod_lt m _ _ _ hm
  obtain ⟨x2, y2, z2, rfl⟩ := open_arr3 (hval 2 22 v2 rfl rfl) h2
  clear hA0 hval0
  refine (torusMoves_walk x0 y0 z0 ao0 L0 cap0 s1 ao1 l1 cap1 x2 y2 z2 W hl0 hm0 hl1 hc1 hm1).mono fun e W' ⟨he, bel⟩ => ?_
  subst he
  exact ⟨_, rfl, _, _, _, [], _, [], hW', trodAll_mk1 (shut_bool Try.underlying4 _), (trodAll_cons_mk (Below.trod laidOut (by kernel_rfl) (of_decide_eq_true (by kernel_rfl)) k0 bel lt0) (trodAll_cons_mk (Below.trod laidOut (by kernel_rfl) (of_decide_eq_true (by kernel_rfl)) k1 bel lt1) (trodAll_cons_mk (Below.trod laidOut (by kernel_rfl) (of_decide_eq_true (by kernel_rfl)) k2 bel lt2) trodAll_mk0))), rfl, bel.frame _, fun h => by cases h⟩

theorem torusMoves_jf9 : (Rows.torusMovesRow.inPlace == Try.prog.inPlace 6) = true := by kernel_rfl
theorem torusMoves_jf10 : (Rows.torusMovesRow.unfollowed == Try.prog.unfollowed 6) = true := by kernel_rfl
theorem torusMoves_jf11 : (Rows.torusMovesRow.recurses == Try.prog.recurses 6) = true := by kernel_rfl
theorem torusMoves_jf12 : (Rows.torusMovesRow.named == Try.prog.varsNamed 6) = true := by kernel_rfl
theorem torusMoves_facts : joinedFacts Try.prog 6 Try.f6 Rows.torusMovesSpec Rows.torusMovesRow = true := by
  unfold joinedFacts
  exact (band (band (band (band (band (band (band (band (band (band (band (band (band (band (band (band (band (band (band (band (band (band (band (band (band (band (band (band (band (band (band (by kernel_rfl) jf1) jf2) (by kernel_rfl)) (by kernel_rfl)) (by kernel_rfl)) jf6) (by kernel_rfl)) jf8) torusMoves_jf9) torusMoves_jf10) torusMoves_jf11) torusMoves_jf12) (by kernel_rfl)) (by kernel_rfl)) (by kernel_rfl)) (by kernel_rfl)) (by kernel_rfl)) (by kernel_rfl)) (by kernel_rfl)) (by kernel_rfl)) (by kernel_rfl)) (by kernel_rfl)) (by kernel_rfl)) jf24) jf25) jf26) jf27) (by kernel_rfl)) (by kernel_rfl)) (by kernel_rfl)) (by kernel_rfl))

theorem torusMoves_over : Rows.torusMovesRow.holds Try.pinned (OpenSpec.ofChange Rows.torusMovesSpec) :=
  OpenClaim.holds_of_wide 6 Try.f6 rfl rfl rfl rfl rfl rfl rfl ⟨rfl, rfl, rfl, rfl, rfl⟩ rfl rfl rfl rfl rfl (by kernel_rfl) Try.func6 torusMoves_facts
    (of_decide_eq_true (by kernel_rfl)) (by unfold Func.isWrapper; first | (rw [if_pos (by decide +kernel)]; kernel_rfl) | (rw [if_neg (by decide +kernel)]; exact ⟨rfl, rfl⟩))
    (fun os started H enc _ => torusMoves_lifted os started H enc)

theorem torusMoves_holds : Rows.TorusMovesSaid := torusMoves_over
#print axioms torusMoves_holds

end Go.Proofs.Ytmmkhkkmgjighaa
