/- QuatCayley: the Cayley map and its inverse are the document's, for all vectors, divisors and units, and the inverse undoes the map.
Conditions: none. -/
import Derived.Test.YtecoemdpfpdeoaaCay2
import Derived.Test.YtecoemdpfpdeoaaEq
namespace Go.Proofs.Ytecoemdpfpdeoaa
set_option linter.unusedVariables false
set_option linter.unusedSimpArgs false
open Go.ChangeShapes Go.WideShapes Go.ChangeAt Go.RowKit
open Um

theorem vector_cases (x : Q) : ∃ (p q r : Int × Int) (er : Int), (∀ W : World, Calls Try.prog 48 #[.agg #[.int .i64 x.a, .int .i64 x.b, .int .i64 x.c, .int .i64 x.d, .int .i64 x.n]] W fun e w' => e = .returned (.tuple #[.agg #[.int .i64 p.1, .int .i64 p.2, .int .i64 q.1, .int .i64 q.2, .int .i64 r.1, .int .i64 r.2], .int .i64 er]) ∧ Below W.heap.size W w') ∧ (∀ W : World, Calls Try.prog 49 #[.agg #[.int .i64 x.a, .int .i64 x.b, .int .i64 x.c, .int .i64 x.d, .int .i64 x.n]] W fun e w' => e = .returned (.tuple #[.agg #[.int .i64 p.1, .int .i64 p.2, .int .i64 q.1, .int .i64 q.2, .int .i64 r.1, .int .i64 r.2], .int .i64 er]) ∧ Below W.heap.size W w') := by
  by_cases h : V x
  · by_cases ha : x.a = -x.n
    · exact ⟨(0, 0), (0, 0), (0, 0), 5, fun W => vector_zero x W h ha, fun W => refVector_zero x W h ha⟩
    · exact ⟨_, _, _, 0, fun W => vector_ok x _ _ _ W h ha rfl, fun W => refVector_ok x _ _ _ W h ha rfl⟩
  · exact ⟨(0, 0), (0, 0), (0, 0), 1, fun W => vector_bad x W h, fun W => refVector_bad x W h⟩

/-- what both answer to the Cayley map, and what its inverse makes of it -/
theorem cayley_cases (a b c d : Int) : ∃ (r : Q) (er : Int), (∀ W : World, Calls Try.prog 46 #[.agg #[.int .i64 a, .int .i64 b, .int .i64 c], .int .i64 d] W fun e w' => e = .returned (.tuple #[.agg #[.int .i64 r.a, .int .i64 r.b, .int .i64 r.c, .int .i64 r.d, .int .i64 r.n], .int .i64 er]) ∧ Below W.heap.size W w') ∧ (∀ W : World, Calls Try.prog 47 #[.agg #[.int .i64 a, .int .i64 b, .int .i64 c], .int .i64 d] W fun e w' => e = .returned (.tuple #[.agg #[.int .i64 r.a, .int .i64 r.b, .int .i64 r.c, .int .i64 r.d, .int .i64 r.n], .int .i64 er]) ∧ Below W.heap.size W w') ∧
    ((er = 0 ∧ (∀ W : World, Calls Try.prog 48 #[.agg #[.int .i64 r.a, .int .i64 r.b, .int .i64 r.c, .int .i64 r.d, .int .i64 r.n]] W fun e w' => e = .returned (.tuple #[.agg #[.int .i64 (rat a d).1, .int .i64 (rat a d).2, .int .i64 (rat b d).1, .int .i64 (rat b d).2, .int .i64 (rat c d).1, .int .i64 (rat c d).2], .int .i64 0]) ∧ Below W.heap.size W w') ∧
      (∀ W : World, Calls Try.prog 50 #[.int .i64 a, .int .i64 d] W fun e w' => e = .returned (.agg #[.int .i64 (rat a d).1, .int .i64 (rat a d).2]) ∧ Below W.heap.size W w') ∧ (∀ W : World, Calls Try.prog 50 #[.int .i64 b, .int .i64 d] W fun e w' => e = .returned (.agg #[.int .i64 (rat b d).1, .int .i64 (rat b d).2]) ∧ Below W.heap.size W w') ∧ (∀ W : World, Calls Try.prog 50 #[.int .i64 c, .int .i64 d] W fun e w' => e = .returned (.agg #[.int .i64 (rat c d).1, .int .i64 (rat c d).2]) ∧ Below W.heap.size W w')) ∨
     ((er = 3 ∨ er = 1) ∧ r = zero)) := by
  cases hv : vB a b c
  · exact ⟨zero, 1, fun W => cayley_far a b c d W hv, fun W => refCayley_bad a b c d W (.inl hv), .inr ⟨.inr rfl, rfl⟩⟩
  by_cases h1 : d < 1
  · exact ⟨zero, 1, fun W => cayley_d a b c d W hv (.inl h1), fun W => refCayley_bad a b c d W (.inr ⟨hv, inB_no (by omega)⟩), .inr ⟨.inr rfl, rfl⟩⟩
  by_cases h2 : 1000 < d
  · exact ⟨zero, 1, fun W => cayley_d a b c d W hv (.inr ⟨h1, h2⟩), fun W => refCayley_bad a b c d W (.inr ⟨hv, inB_no (by omega)⟩), .inr ⟨.inr rfl, rfl⟩⟩
  by_cases hl : (low (cay a b c d)).n ≤ 1048576
  · have hr : cayR a b c d (low (cay a b c d)) 0 := .inl ⟨hl, rfl, rfl⟩
    have hvb := vB_iff.1 hv
    have hvv := vec_cay a b c d (by omega)
    have V1 : V (low (cay a b c d)) := V.of_low (cay_len a b c d (by omega)) hl
    exact ⟨_, 0, fun W => cayley_ok a b c d _ _ W hv h1 h2 hr, fun W => refCayley_ok a b c d _ _ W hv h1 h2 hr, .inl ⟨rfl, fun W => vector_ok _ _ _ _ W V1 (by have := hvv.2; omega) hvv.1,
      fun W => refRatio_any a d W (by omega) (by omega), fun W => refRatio_any b d W (by omega) (by omega), fun W => refRatio_any c d W (by omega) (by omega)⟩⟩
  · have hr : cayR a b c d zero 3 := .inr ⟨by omega, rfl, rfl⟩
    exact ⟨_, 3, fun W => cayley_ok a b c d _ _ W hv h1 h2 hr, fun W => refCayley_ok a b c d _ _ W hv h1 h2 hr, .inr ⟨.inl rfl, rfl⟩⟩

set_option maxRecDepth 100000 in
set_option maxHeartbeats 1600000 in
theorem quatCayley_walk (a b c d : Int) (x : Q) (w : World) : Calls Try.prog 13 #[.agg #[.int .i64 a, .int .i64 b, .int .i64 c], .int .i64 d, .agg #[.int .i64 x.a, .int .i64 x.b, .int .i64 x.c, .int .i64 x.d, .int .i64 x.n]] w fun e w' => e = .returned (.bool true) ∧ Below w.heap.size w w' := by
  have kn := known_any
  have kc := @Tail.cell_re
  have kc1 : ∀ (W : World) (o : Obj) (d : Nat) (os : Array Obj) (a : Addr), a.block ≤ W.heap.size → (Sort.grow (redrawn (W.alloc o) d) os).cell? a = (W.alloc o).cell? a := fun W o d os a h =>
    Tail.cell_re (W.alloc o) d os a (by have : (W.alloc o).heap.size = W.heap.size + 1 := by simp
                                        omega)
  obtain ⟨r, er, c1, c2, hc⟩ := cayley_cases a b c d
  obtain ⟨p, q, s, ev, v1, v2⟩ := vector_cases x
  have q50 := fun W : World => eq50 p.1 p.2 q.1 q.2 s.1 s.2 W
  rcases hc with ⟨rfl, v3, r1, r2, r3⟩ | ⟨rfl | rfl, rfl⟩
  · have q51 := fun W : World => eq50 (rat a d).1 (rat a d).2 (rat b d).1 (rat b d).2 (rat c d).1 (rat c d).2 W
    generalize rat a d = t1 at *
    generalize rat b d = t2 at *
    generalize rat c d = t3 at *
    go_enter Try.func13, Try.ntmps13
    go_wp2_with (first | ((with_reducible refine (c1 _).mono ?_); clear c1; rintro e w1 ⟨rfl, hw1⟩; have hc1 := Tail.cells hw1; have s1 := hw1.size; (try simp at s1); (try have z1_0 : w.heap.size < w1.heap.size := (by omega)); (try have z1_1 : w.heap.size + 1 < w1.heap.size := (by omega)); clear s1) | ((with_reducible refine (c2 _).mono ?_); clear c2; rintro e w2 ⟨rfl, hw2⟩; have hc2 := Tail.cells hw2; have s2 := hw2.size; (try simp at s2); (try have z2_0 : w.heap.size < w2.heap.size := (by omega)); (try have z2_1 : w.heap.size + 1 < w2.heap.size := (by omega)); (try have z2_2 : w1.heap.size < w2.heap.size := (by omega)); clear s2) | ((with_reducible refine (v1 _).mono ?_); clear v1; rintro e w3 ⟨rfl, hw3⟩; have hc3 := Tail.cells hw3; have s3 := hw3.size; (try simp at s3); (try have z3_0 : w.heap.size < w3.heap.size := (by omega)); (try have z3_1 : w.heap.size + 1 < w3.heap.size := (by omega)); (try have z3_2 : w1.heap.size < w3.heap.size := (by omega)); (try have z3_3 : w2.heap.size < w3.heap.size := (by omega)); clear s3) | ((with_reducible refine (v2 _).mono ?_); clear v2; rintro e w4 ⟨rfl, hw4⟩; have hc4 := Tail.cells hw4; have s4 := hw4.size; (try simp at s4); (try have z4_0 : w.heap.size < w4.heap.size := (by omega)); (try have z4_1 : w.heap.size + 1 < w4.heap.size := (by omega)); (try have z4_2 : w1.heap.size < w4.heap.size := (by omega)); (try have z4_3 : w2.heap.size < w4.heap.size := (by omega)); (try have z4_4 : w3.heap.size < w4.heap.size := (by omega)); clear s4) | ((with_reducible refine (v3 _).mono ?_); clear v3; rintro e w5 ⟨rfl, hw5⟩; have hc5 := Tail.cells hw5; have s5 := hw5.size; (try simp at s5); (try have z5_0 : w.heap.size < w5.heap.size := (by omega)); (try have z5_1 : w.heap.size + 1 < w5.heap.size := (by omega)); (try have z5_2 : w1.heap.size < w5.heap.size := (by omega)); (try have z5_3 : w2.heap.size < w5.heap.size := (by omega)); (try have z5_4 : w3.heap.size < w5.heap.size := (by omega)); (try have z5_5 : w4.heap.size < w5.heap.size := (by omega)); clear s5))
    refine Tail.region_below (by kernel_rfl) (by kernel_rfl) ?_
    repeat (first | go_big_quiet_step (first | (with_reducible exact Calls.regrown_of (r1 _)) | (with_reducible exact Calls.regrown_of (r2 _)) | (with_reducible exact Calls.regrown_of (r3 _)) | (with_reducible exact Calls.regrown_of (kn _))) | quiet_step (fail))
    refine wpQuiet_nil ?_
    intro w9 hw9
    go_wp2
    go_ret
    exact ⟨rfl, by repeat (first | (with_reducible exact Below.refl _ _) | (with_reducible refine Below.setCell ?_ ?_ _) | (with_reducible refine Below.drew ?_) | (with_reducible refine Below.alloc ?_ ?_ _) | (with_reducible refine Below.trans ?_ (Below.mono hw9 ?_)) | (with_reducible refine Below.trans ?_ (Below.mono hw5 ?_)) | (with_reducible refine Below.trans ?_ (Below.mono hw4 ?_)) | (with_reducible refine Below.trans ?_ (Below.mono hw3 ?_)) | (with_reducible refine Below.trans ?_ (Below.mono hw2 ?_)) | (with_reducible refine Below.trans ?_ (Below.mono hw1 ?_)) | (with_reducible exact hw9.size) | (with_reducible exact hw5.size) | (with_reducible exact hw4.size) | (with_reducible exact hw3.size) | (with_reducible exact hw2.size) | (with_reducible exact hw1.size) | omega | (simp <;> omega) | (simp <;> (have s := hw9.size; omega)) | (simp <;> (have s := hw5.size; omega)) | (simp <;> (have s := hw4.size; omega)) | (simp <;> (have s := hw3.size; omega)) | (simp <;> (have s := hw2.size; omega)) | (simp <;> (have s := hw1.size; omega)))⟩
  · have v3 := fun W : World => vector_bad zero W not_V_zero
    go_enter Try.func13, Try.ntmps13
    go_wp2_with (first | ((with_reducible refine (c1 _).mono ?_); clear c1; rintro e w1 ⟨rfl, hw1⟩; have hc1 := Tail.cells hw1; have s1 := hw1.size; (try simp at s1); (try have z1_0 : w.heap.size < w1.heap.size := (by omega)); (try have z1_1 : w.heap.size + 1 < w1.heap.size := (by omega)); clear s1) | ((with_reducible refine (c2 _).mono ?_); clear c2; rintro e w2 ⟨rfl, hw2⟩; have hc2 := Tail.cells hw2; have s2 := hw2.size; (try simp at s2); (try have z2_0 : w.heap.size < w2.heap.size := (by omega)); (try have z2_1 : w.heap.size + 1 < w2.heap.size := (by omega)); (try have z2_2 : w1.heap.size < w2.heap.size := (by omega)); clear s2) | ((with_reducible refine (v1 _).mono ?_); clear v1; rintro e w3 ⟨rfl, hw3⟩; have hc3 := Tail.cells hw3; have s3 := hw3.size; (try simp at s3); (try have z3_0 : w.heap.size < w3.heap.size := (by omega)); (try have z3_1 : w.heap.size + 1 < w3.heap.size := (by omega)); (try have z3_2 : w1.heap.size < w3.heap.size := (by omega)); (try have z3_3 : w2.heap.size < w3.heap.size := (by omega)); clear s3) | ((with_reducible refine (v2 _).mono ?_); clear v2; rintro e w4 ⟨rfl, hw4⟩; have hc4 := Tail.cells hw4; have s4 := hw4.size; (try simp at s4); (try have z4_0 : w.heap.size < w4.heap.size := (by omega)); (try have z4_1 : w.heap.size + 1 < w4.heap.size := (by omega)); (try have z4_2 : w1.heap.size < w4.heap.size := (by omega)); (try have z4_3 : w2.heap.size < w4.heap.size := (by omega)); (try have z4_4 : w3.heap.size < w4.heap.size := (by omega)); clear s4) | ((with_reducible refine (v3 _).mono ?_); clear v3; rintro e w5 ⟨rfl, hw5⟩; have hc5 := Tail.cells hw5; have s5 := hw5.size; (try simp at s5); (try have z5_0 : w.heap.size < w5.heap.size := (by omega)); (try have z5_1 : w.heap.size + 1 < w5.heap.size := (by omega)); (try have z5_2 : w1.heap.size < w5.heap.size := (by omega)); (try have z5_3 : w2.heap.size < w5.heap.size := (by omega)); (try have z5_4 : w3.heap.size < w5.heap.size := (by omega)); (try have z5_5 : w4.heap.size < w5.heap.size := (by omega)); clear s5) | ((with_reducible refine (kn _).mono ?_); rintro e w6 ⟨rfl, hw6⟩; have hc6 := Tail.cells hw6; have s6 := hw6.size; (try simp at s6); (try have z6_0 : w.heap.size < w6.heap.size := (by omega)); (try have z6_1 : w.heap.size + 1 < w6.heap.size := (by omega)); (try have z6_2 : w1.heap.size < w6.heap.size := (by omega)); (try have z6_3 : w2.heap.size < w6.heap.size := (by omega)); (try have z6_4 : w3.heap.size < w6.heap.size := (by omega)); (try have z6_5 : w4.heap.size < w6.heap.size := (by omega)); (try have z6_6 : w5.heap.size < w6.heap.size := (by omega)); clear s6))
    go_ret
    exact ⟨rfl, by repeat (first | (with_reducible exact Below.refl _ _) | (with_reducible refine Below.setCell ?_ ?_ _) | (with_reducible refine Below.drew ?_) | (with_reducible refine Below.alloc ?_ ?_ _) | (with_reducible refine Below.trans ?_ (Below.mono hw6 ?_)) | (with_reducible refine Below.trans ?_ (Below.mono hw5 ?_)) | (with_reducible refine Below.trans ?_ (Below.mono hw4 ?_)) | (with_reducible refine Below.trans ?_ (Below.mono hw3 ?_)) | (with_reducible refine Below.trans ?_ (Below.mono hw2 ?_)) | (with_reducible refine Below.trans ?_ (Below.mono hw1 ?_)) | (with_reducible exact hw6.size) | (with_reducible exact hw5.size) | (with_reducible exact hw4.size) | (with_reducible exact hw3.size) | (with_reducible exact hw2.size) | (with_reducible exact hw1.size) | omega | (simp <;> omega) | (simp <;> (have s := hw6.size; omega)) | (simp <;> (have s := hw5.size; omega)) | (simp <;> (have s := hw4.size; omega)) | (simp <;> (have s := hw3.size; omega)) | (simp <;> (have s := hw2.size; omega)) | (simp <;> (have s := hw1.size; omega)))⟩
  · have v3 := fun W : World => vector_bad zero W not_V_zero
    go_enter Try.func13, Try.ntmps13
    go_wp2_with (first | ((with_reducible refine (c1 _).mono ?_); clear c1; rintro e w1 ⟨rfl, hw1⟩; have hc1 := Tail.cells hw1; have s1 := hw1.size; (try simp at s1); (try have z1_0 : w.heap.size < w1.heap.size := (by omega)); (try have z1_1 : w.heap.size + 1 < w1.heap.size := (by omega)); clear s1) | ((with_reducible refine (c2 _).mono ?_); clear c2; rintro e w2 ⟨rfl, hw2⟩; have hc2 := Tail.cells hw2; have s2 := hw2.size; (try simp at s2); (try have z2_0 : w.heap.size < w2.heap.size := (by omega)); (try have z2_1 : w.heap.size + 1 < w2.heap.size := (by omega)); (try have z2_2 : w1.heap.size < w2.heap.size := (by omega)); clear s2) | ((with_reducible refine (v1 _).mono ?_); clear v1; rintro e w3 ⟨rfl, hw3⟩; have hc3 := Tail.cells hw3; have s3 := hw3.size; (try simp at s3); (try have z3_0 : w.heap.size < w3.heap.size := (by omega)); (try have z3_1 : w.heap.size + 1 < w3.heap.size := (by omega)); (try have z3_2 : w1.heap.size < w3.heap.size := (by omega)); (try have z3_3 : w2.heap.size < w3.heap.size := (by omega)); clear s3) | ((with_reducible refine (v2 _).mono ?_); clear v2; rintro e w4 ⟨rfl, hw4⟩; have hc4 := Tail.cells hw4; have s4 := hw4.size; (try simp at s4); (try have z4_0 : w.heap.size < w4.heap.size := (by omega)); (try have z4_1 : w.heap.size + 1 < w4.heap.size := (by omega)); (try have z4_2 : w1.heap.size < w4.heap.size := (by omega)); (try have z4_3 : w2.heap.size < w4.heap.size := (by omega)); (try have z4_4 : w3.heap.size < w4.heap.size := (by omega)); clear s4) | ((with_reducible refine (v3 _).mono ?_); clear v3; rintro e w5 ⟨rfl, hw5⟩; have hc5 := Tail.cells hw5; have s5 := hw5.size; (try simp at s5); (try have z5_0 : w.heap.size < w5.heap.size := (by omega)); (try have z5_1 : w.heap.size + 1 < w5.heap.size := (by omega)); (try have z5_2 : w1.heap.size < w5.heap.size := (by omega)); (try have z5_3 : w2.heap.size < w5.heap.size := (by omega)); (try have z5_4 : w3.heap.size < w5.heap.size := (by omega)); (try have z5_5 : w4.heap.size < w5.heap.size := (by omega)); clear s5) | ((with_reducible refine (kn _).mono ?_); rintro e w6 ⟨rfl, hw6⟩; have hc6 := Tail.cells hw6; have s6 := hw6.size; (try simp at s6); (try have z6_0 : w.heap.size < w6.heap.size := (by omega)); (try have z6_1 : w.heap.size + 1 < w6.heap.size := (by omega)); (try have z6_2 : w1.heap.size < w6.heap.size := (by omega)); (try have z6_3 : w2.heap.size < w6.heap.size := (by omega)); (try have z6_4 : w3.heap.size < w6.heap.size := (by omega)); (try have z6_5 : w4.heap.size < w6.heap.size := (by omega)); (try have z6_6 : w5.heap.size < w6.heap.size := (by omega)); clear s6))
    go_ret
    exact ⟨rfl, by repeat (first | (with_reducible exact Below.refl _ _) | (with_reducible refine Below.setCell ?_ ?_ _) | (with_reducible refine Below.drew ?_) | (with_reducible refine Below.alloc ?_ ?_ _) | (with_reducible refine Below.trans ?_ (Below.mono hw6 ?_)) | (with_reducible refine Below.trans ?_ (Below.mono hw5 ?_)) | (with_reducible refine Below.trans ?_ (Below.mono hw4 ?_)) | (with_reducible refine Below.trans ?_ (Below.mono hw3 ?_)) | (with_reducible refine Below.trans ?_ (Below.mono hw2 ?_)) | (with_reducible refine Below.trans ?_ (Below.mono hw1 ?_)) | (with_reducible exact hw6.size) | (with_reducible exact hw5.size) | (with_reducible exact hw4.size) | (with_reducible exact hw3.size) | (with_reducible exact hw2.size) | (with_reducible exact hw1.size) | omega | (simp <;> omega) | (simp <;> (have s := hw6.size; omega)) | (simp <;> (have s := hw5.size; omega)) | (simp <;> (have s := hw4.size; omega)) | (simp <;> (have s := hw3.size; omega)) | (simp <;> (have s := hw2.size; omega)) | (simp <;> (have s := hw1.size; omega)))⟩

/-! ### The statement of the law QuatCayley, out of its walk -/
set_option maxRecDepth 100000 in
theorem quatCayley_lifted (os : Os) (started : os.Started) (H : Type) (enc : TypeId × Value → H) :
    ReturnsInHanded {} Try.checked os 13 .any (Rows.quatCayleySpec.pre6 enc Try.prog Try.f13 Rows.quatCayleyRow.domain false) (Rows.quatCayleySpec.post enc Try.prog Try.f13 false true false false) := by
  refine returnsInHanded_of_change (C := Try.checked) own started (by kernel_rfl) Try.func13
    (ChangeSpec.witness6 (enc := enc) (C := Try.checked) false ⟨#[], #[.agg #[.int .i64 0, .int .i64 0, .int .i64 0], .int .i64 0, .agg #[.int .i64 0, .int .i64 0, .int .i64 0, .int .i64 0, .int .i64 0]], []⟩ 8 (by kernel_rfl) (by kernel_rfl) (by kernel_rfl) (by kernel_rfl)) ?_
  intro W base args ds gs before hval0 hW hcnd _
  have hval : ∀ (j : Nat) t v, Try.f13.params[j]? = some t → args[j]? = some v → Value.okWide Try.prog W .any base t v := hval0
  have hW' := hW
  obtain ⟨p, q, hA0, hV, rfl, hfz, hnd⟩ := hW
  have hA : DataW.TrodAll enc Try.prog W 0 (fun _ => true) true Try.f13.params.toList args.toList ds p := hA0
  rw [Try.params13] at hA hval
  obtain ⟨v0, vs0, d0, ds0, p0, q0, hargs, rfl, rfl, h0, r0⟩ := trodAll_cons hA
  obtain ⟨v1, vs1, d1, ds1, p1, q1, rfl, rfl, rfl, h1, r1⟩ := trodAll_cons r0
  obtain ⟨v2, vs2, d2, ds2, p2, q2, rfl, rfl, rfl, h2, r2⟩ := trodAll_cons r1
  obtain ⟨rfl, rfl, rfl⟩ := trodAll_nil r2
  obtain rfl : args = #[v0, v1, v2] := by cases args; simp_all
  obtain ⟨rfl, rfl⟩ := trodVars_none hV
  have k0 := h0
  have lt0 : ∀ x ∈ p0, x.block < W.heap.size := by obtain ⟨m, hm⟩ := k0; exact DataW.trod_lt m _ _ _ hm
  obtain ⟨x0, y0, z0, rfl⟩ := open_arr3 (hval 0 49 v0 rfl rfl) h0
  have k1 := h1
  have lt1 : ∀ x ∈ p1, x.block < W.heap.size := by obtain ⟨m, hm⟩ := k1; exact DataW.trod_lt m _ _ _ hm
  obtain ⟨x1, e1, -, -, -⟩ := open_int Try.underlying3 (hval 1 3 v1 rfl rfl) h1
  subst e1
  have k2 := h2
  have lt2 : ∀ x ∈ p2, x.block < W.heap.size := by obtain ⟨m, hm⟩ := k2; exact DataW.trod_lt m _ _ _ hm
  obtain ⟨x2, rfl⟩ := open_unit (hval 2 23 v2 rfl rfl) h2
  clear hA0 hval0
  refine (quatCayley_walk x0 y0 z0 x1 x2 W).mono fun e W' ⟨he, bel⟩ => ?_
  subst he
  exact ⟨_, rfl, _, _, _, [], _, [], hW', trodAll_mk1 (shut_bool Try.underlying4 _), (trodAll_cons_mk (Below.trod laidOut (by kernel_rfl) (of_decide_eq_true (by kernel_rfl)) k0 bel lt0) (trodAll_cons_mk (Below.trod laidOut (by kernel_rfl) (of_decide_eq_true (by kernel_rfl)) k1 bel lt1) (trodAll_cons_mk (Below.trod laidOut (by kernel_rfl) (of_decide_eq_true (by kernel_rfl)) k2 bel lt2) trodAll_mk0))), rfl, bel.frame _, fun h => by cases h⟩

theorem quatCayley_over : Rows.quatCayleyRow.holds Try.pinned (OpenSpec.ofChange Rows.quatCayleySpec) :=
  OpenClaim.holds_of_wide 13 Try.f13 rfl rfl rfl rfl rfl rfl rfl ⟨rfl, rfl, rfl, rfl, rfl⟩ rfl rfl rfl rfl rfl (by kernel_rfl) Try.func13 (by kernel_rfl)
    (of_decide_eq_true (by kernel_rfl)) (by unfold Func.isWrapper; first | (rw [if_pos (by decide +kernel)]; kernel_rfl) | (rw [if_neg (by decide +kernel)]; exact ⟨rfl, rfl⟩))
    (fun os started H enc _ => quatCayley_lifted os started H enc)

theorem quatCayley_holds : Rows.QuatCayleySaid := quatCayley_over
#print axioms quatCayley_holds

end Go.Proofs.Ytecoemdpfpdeoaa
