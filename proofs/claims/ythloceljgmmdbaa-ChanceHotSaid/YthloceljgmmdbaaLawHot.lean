/- ChanceHot: the hot field and the noise of a seed are what the document says, for all sizes and numbers.
Conditions: none. -/
import Derived.Test.YthloceljgmmdbaaSane5
import Derived.Test.YthloceljgmmdbaaHotS
import Derived.Test.YthloceljgmmdbaaSameU4
import Derived.Test.YthloceljgmmdbaaOpen3
import Derived.Test.YthloceljgmmdbaaJFacts
namespace Go.Proofs.Ythloceljgmmdbaa
set_option linter.unusedVariables false
set_option linter.unusedSimpArgs false
set_option maxRecDepth 1000000
open Go.ChangeShapes Go.WideShapes Go.ChangeAt Go.RowKit
open Um Tm Cm

set_option maxHeartbeats 3200000 in
theorem chanceHot_ok (a b c s : Int) (w : World) (hz : Sz a b c) (hs : IsSeed s) : Calls Try.prog 5 #[.agg #[.int .i64 a, .int .i64 b, .int .i64 c], .int .i64 s] w fun e w' => e = .returned (.bool true) ∧ Below w.heap.size w w' := by
  have kn := sane5_any
  obtain ⟨n, hn, hn0, hn48⟩ := size_ex hz
  obtain ⟨m, hm, hm0, hm16⟩ := sites_ex hz
  have c1 := fun W : World => hot_ok a b c s n W hz hn hs
  have c2 := fun W : World => refHot_ok a b c s n W hz hn hs
  have c3 := fun W : World => noise_ok a b c s m W hz hm hs
  have c4 := fun W : World => refNoise_ok a b c s m W hz hm hs
  have l1 := uns_len s n
  have l2 := uns_len s m
  have d5 := fun (g1 k1 g2 k2 : Nat) (W : World) (h1 : Lies W g1 0 (uns s n)) (h2 : Lies W g2 0 (uns s n)) => sameF4_any a b c (some ⟨g1, 0, none⟩) (some ⟨g2, 0, none⟩) k1 k2 (uns s n) W (.inr ⟨g1, 0, rfl, h1⟩) (.inr ⟨g2, 0, rfl, h2⟩) (by omega)
  have d6 := fun (g1 k1 g2 k2 : Nat) (W : World) (h1 : Lies W g1 0 (uns s m)) (h2 : Lies W g2 0 (uns s m)) => sameU4_any (some ⟨g1, 0, none⟩) (some ⟨g2, 0, none⟩) k1 k2 (uns s m) W (.inr ⟨g1, 0, rfl, h1⟩) (.inr ⟨g2, 0, rfl, h2⟩) (by omega)
  clear l1 l2 hz hs hn hm
  generalize advN s n = t at *
  generalize advN s m = u at *
  generalize uns s n = L at *
  generalize uns s m = M at *
  go_enter Try.func5, Try.ntmps5
  go_wp2_with (first | ((with_reducible refine (c1 _).mono ?_); clear c1; rintro e w1 ⟨⟨g1, k1, rfl, hl1⟩, hw1⟩; have hc1 := Tail.cells hw1; have s1 := hw1.size; (try simp at s1); have z1_0 : w.heap.size < w1.heap.size := (by omega); have HL1 := Lib.hid (hl1.later ((Below.refl _ _).alloc (Nat.le_refl _) (.cells #[.int .i64 a, .int .i64 b, .int .i64 c, .slice (some ⟨g1, 0, none⟩) L.length k1] 34))); clear hl1 s1) | ((with_reducible refine (c2 _).mono ?_); clear c2; rintro e w2 ⟨⟨g2, k2, rfl, hl2⟩, hw2⟩; have hc2 := Tail.cells hw2; have s2 := hw2.size; (try simp at s2); have z2_0 : w.heap.size < w2.heap.size := (by omega); have z2_1 : w1.heap.size < w2.heap.size := (by omega); have HL1b := Lib.hid ((HL1.out.later hw2).later ((Below.refl _ _).alloc (Nat.le_refl _) (.cells #[.int .i64 a, .int .i64 b, .int .i64 c, .slice (some ⟨g2, 0, none⟩) L.length k2] 34))); have HL2 := Lib.hid (hl2.later ((Below.refl _ _).alloc (Nat.le_refl _) (.cells #[.int .i64 a, .int .i64 b, .int .i64 c, .slice (some ⟨g2, 0, none⟩) L.length k2] 34))); clear hl2 HL1 s2) | ((with_reducible refine (c3 _).mono ?_); clear c3; rintro e w3 ⟨⟨g3, k3, rfl, hl3, -⟩, hw3⟩; have hc3 := Tail.cells hw3; have s3 := hw3.size; (try simp at s3); have z3_0 : w.heap.size < w3.heap.size := (by omega); have z3_1 : w1.heap.size < w3.heap.size := (by omega); have z3_2 : w2.heap.size < w3.heap.size := (by omega); have HM3 := Lib.hid hl3; clear hl3 s3) | ((with_reducible refine (c4 _).mono ?_); clear c4; rintro e w4 ⟨⟨g4, k4, rfl, hl4, -⟩, hw4⟩; have hc4 := Tail.cells hw4; have s4 := hw4.size; (try simp at s4); have z4_0 : w.heap.size < w4.heap.size := (by omega); have z4_1 : w1.heap.size < w4.heap.size := (by omega); have z4_2 : w2.heap.size < w4.heap.size := (by omega); have HA := Lib.hid ((HL1b.out.later hw3).later hw4); have HB := Lib.hid ((HL2.out.later hw3).later hw4); have HC := Lib.hid (HM3.out.later hw4); have HD := Lib.hid hl4; clear hl4 s4 HL1b HL2 HM3) | ((with_reducible refine (d5 _ _ _ _ _ HA.out HB.out).mono ?_); clear d5; rintro e w5 ⟨rfl, hw5⟩; have hc5 := Tail.cells hw5; have HC5 := Lib.hid (HC.out.later hw5); have HD5 := Lib.hid (HD.out.later hw5)) | ((with_reducible refine (d6 _ _ _ _ _ HC5.out HD5.out).mono ?_); clear d6; rintro e w6 ⟨rfl, hw6⟩) | ((with_reducible refine (kn _).mono ?_); rintro e w7 ⟨rfl, hw7⟩))
  go_ret
  exact ⟨rfl, by repeat (first | (with_reducible exact Below.refl _ _) | (with_reducible refine Below.setCell ?_ ?_ _) | (with_reducible refine Below.drew ?_) | (with_reducible refine Below.alloc ?_ ?_ _) | (with_reducible refine Below.trans ?_ (Below.mono hw7 ?_)) | (with_reducible refine Below.trans ?_ (Below.mono hw6 ?_)) | (with_reducible refine Below.trans ?_ (Below.mono hw5 ?_)) | (with_reducible refine Below.trans ?_ (Below.mono hw4 ?_)) | (with_reducible refine Below.trans ?_ (Below.mono hw3 ?_)) | (with_reducible refine Below.trans ?_ (Below.mono hw2 ?_)) | (with_reducible refine Below.trans ?_ (Below.mono hw1 ?_)) | (with_reducible exact hw7.size) | (with_reducible exact hw6.size) | (with_reducible exact hw5.size) | (with_reducible exact hw4.size) | (with_reducible exact hw3.size) | (with_reducible exact hw2.size) | (with_reducible exact hw1.size) | omega | (simp <;> omega) | (simp <;> (have s := hw7.size; omega)) | (simp <;> (have s := hw6.size; omega)) | (simp <;> (have s := hw5.size; omega)) | (simp <;> (have s := hw4.size; omega)) | (simp <;> (have s := hw3.size; omega)) | (simp <;> (have s := hw2.size; omega)) | (simp <;> (have s := hw1.size; omega)) | (have s0 := hw7.size; (try simp at s0); have s1 := hw6.size; (try simp at s1); have s2 := hw5.size; (try simp at s2); have s3 := hw4.size; (try simp at s3); have s4 := hw3.size; (try simp at s4); have s5 := hw2.size; (try simp at s5); have s6 := hw1.size; (try simp at s6); (try simp); omega))⟩

set_option maxHeartbeats 3200000 in
theorem chanceHot_err (a b c s r : Int) (w : World) (h : ssR a b c s r) : Calls Try.prog 5 #[.agg #[.int .i64 a, .int .i64 b, .int .i64 c], .int .i64 s] w fun e w' => e = .returned (.bool true) ∧ Below w.heap.size w w' := by
  have kn := sane5_any
  have c1 := fun W : World => hot_bad a b c s r W h
  have c2 := fun W : World => refHot_bad a b c s r W h
  have c3 := fun W : World => noise_bad a b c s r W h
  have c4 := fun W : World => refNoise_bad a b c s r W h
  have d5 : ∀ W : World, Calls Try.prog 18 #[.agg #[.int .i64 0, .int .i64 0, .int .i64 0, .slice none 0 0], .agg #[.int .i64 0, .int .i64 0, .int .i64 0, .slice none 0 0]] W fun e w' => e = .returned (.bool true) ∧ Below W.heap.size W w' := fun W => sameF4_any 0 0 0 none none 0 0 [] W (.inl rfl) (.inl rfl) (by simp)
  have d6 := fun W : World => sameU4_nil none none 0 0 W
  clear h
  go_enter Try.func5, Try.ntmps5
  go_wp2_with (first | ((with_reducible refine (c1 _).mono ?_); clear c1; rintro e w1 ⟨rfl, hw1⟩; have hc1 := Tail.cells hw1; have s1 := hw1.size; (try simp at s1); (try have z1_0 : w.heap.size < w1.heap.size := (by omega)); clear s1) | ((with_reducible refine (c2 _).mono ?_); clear c2; rintro e w2 ⟨rfl, hw2⟩; have hc2 := Tail.cells hw2; have s2 := hw2.size; (try simp at s2); (try have z2_0 : w.heap.size < w2.heap.size := (by omega)); (try have z2_1 : w1.heap.size < w2.heap.size := (by omega)); clear s2) | ((with_reducible refine (c3 _).mono ?_); clear c3; rintro e w3 ⟨rfl, hw3⟩; have hc3 := Tail.cells hw3; have s3 := hw3.size; (try simp at s3); (try have z3_0 : w.heap.size < w3.heap.size := (by omega)); (try have z3_1 : w1.heap.size < w3.heap.size := (by omega)); (try have z3_2 : w2.heap.size < w3.heap.size := (by omega)); clear s3) | ((with_reducible refine (c4 _).mono ?_); clear c4; rintro e w4 ⟨rfl, hw4⟩; have hc4 := Tail.cells hw4; have s4 := hw4.size; (try simp at s4); (try have z4_0 : w.heap.size < w4.heap.size := (by omega)); (try have z4_1 : w1.heap.size < w4.heap.size := (by omega)); (try have z4_2 : w2.heap.size < w4.heap.size := (by omega)); (try have z4_3 : w3.heap.size < w4.heap.size := (by omega)); clear s4) | ((with_reducible refine (d5 _).mono ?_); clear d5; rintro e w5 ⟨rfl, hw5⟩; have hc5 := Tail.cells hw5; have s5 := hw5.size; (try simp at s5); (try have z5_0 : w.heap.size < w5.heap.size := (by omega)); (try have z5_1 : w1.heap.size < w5.heap.size := (by omega)); (try have z5_2 : w2.heap.size < w5.heap.size := (by omega)); (try have z5_3 : w3.heap.size < w5.heap.size := (by omega)); (try have z5_4 : w4.heap.size < w5.heap.size := (by omega)); clear s5) | ((with_reducible refine (d6 _).mono ?_); clear d6; rintro e w6 ⟨rfl, hw6⟩; have hc6 := Tail.cells hw6; have s6 := hw6.size; (try simp at s6); (try have z6_0 : w.heap.size < w6.heap.size := (by omega)); (try have z6_1 : w1.heap.size < w6.heap.size := (by omega)); (try have z6_2 : w2.heap.size < w6.heap.size := (by omega)); (try have z6_3 : w3.heap.size < w6.heap.size := (by omega)); (try have z6_4 : w4.heap.size < w6.heap.size := (by omega)); (try have z6_5 : w5.heap.size < w6.heap.size := (by omega)); clear s6) | ((with_reducible refine (kn _).mono ?_); clear kn; rintro e w7 ⟨rfl, hw7⟩; have hc7 := Tail.cells hw7; have s7 := hw7.size; (try simp at s7); (try have z7_0 : w.heap.size < w7.heap.size := (by omega)); (try have z7_1 : w1.heap.size < w7.heap.size := (by omega)); (try have z7_2 : w2.heap.size < w7.heap.size := (by omega)); (try have z7_3 : w3.heap.size < w7.heap.size := (by omega)); (try have z7_4 : w4.heap.size < w7.heap.size := (by omega)); (try have z7_5 : w5.heap.size < w7.heap.size := (by omega)); (try have z7_6 : w6.heap.size < w7.heap.size := (by omega)); clear s7))
  go_ret
  exact ⟨rfl, by repeat (first | (with_reducible exact Below.refl _ _) | (with_reducible refine Below.setCell ?_ ?_ _) | (with_reducible refine Below.drew ?_) | (with_reducible refine Below.alloc ?_ ?_ _) | (with_reducible refine Below.trans ?_ (Below.mono hw7 ?_)) | (with_reducible refine Below.trans ?_ (Below.mono hw6 ?_)) | (with_reducible refine Below.trans ?_ (Below.mono hw5 ?_)) | (with_reducible refine Below.trans ?_ (Below.mono hw4 ?_)) | (with_reducible refine Below.trans ?_ (Below.mono hw3 ?_)) | (with_reducible refine Below.trans ?_ (Below.mono hw2 ?_)) | (with_reducible refine Below.trans ?_ (Below.mono hw1 ?_)) | (with_reducible exact hw7.size) | (with_reducible exact hw6.size) | (with_reducible exact hw5.size) | (with_reducible exact hw4.size) | (with_reducible exact hw3.size) | (with_reducible exact hw2.size) | (with_reducible exact hw1.size) | omega | (simp <;> omega) | (simp <;> (have s := hw7.size; omega)) | (simp <;> (have s := hw6.size; omega)) | (simp <;> (have s := hw5.size; omega)) | (simp <;> (have s := hw4.size; omega)) | (simp <;> (have s := hw3.size; omega)) | (simp <;> (have s := hw2.size; omega)) | (simp <;> (have s := hw1.size; omega)) | (have s0 := hw7.size; (try simp at s0); have s1 := hw6.size; (try simp at s1); have s2 := hw5.size; (try simp at s2); have s3 := hw4.size; (try simp at s3); have s4 := hw3.size; (try simp at s4); have s5 := hw2.size; (try simp at s5); have s6 := hw1.size; (try simp at s6); (try simp); omega))⟩

theorem chanceHot_walk (a b c s : Int) (w : World) : Calls Try.prog 5 #[.agg #[.int .i64 a, .int .i64 b, .int .i64 c], .int .i64 s] w fun e w' => e = .returned (.bool true) ∧ Below w.heap.size w w' := by
  by_cases hz : Sz a b c
  · by_cases hs : IsSeed s
    · exact chanceHot_ok a b c s w hz hs
    · exact chanceHot_err a b c s 1 w (.inr ⟨hz, hs, rfl⟩)
  · exact chanceHot_err a b c s 1 w (.inl ⟨hz, rfl⟩)

/-! ### The statement of the law ChanceHot, out of its walk -/
set_option maxRecDepth 100000 in
theorem chanceHot_lifted (os : Os) (started : os.Started) (H : Type) (enc : TypeId × Value → H) :
    ReturnsInHanded {} Try.checked os 5 .any (Rows.chanceHotSpec.pre6 enc Try.prog Try.f5 Rows.chanceHotRow.domain false) (Rows.chanceHotSpec.post enc Try.prog Try.f5 false true false false) := by
  refine returnsInHanded_of_change (C := Try.checked) own started (by kernel_rfl) Try.func5
    (ChangeSpec.witness6 (enc := enc) (C := Try.checked) false ⟨#[], #[.agg #[.int .i64 0, .int .i64 0, .int .i64 0], .int .i64 0], []⟩ 8 (by kernel_rfl) (by kernel_rfl) (by kernel_rfl) (by kernel_rfl)) ?_
  intro W base args ds gs before hval0 hW hcnd _
  have hval : ∀ (j : Nat) t v, Try.f5.params[j]? = some t → args[j]? = some v → Value.okWide Try.prog W .any base t v := hval0
  have hW' := hW
  obtain ⟨p, q, hA0, hV, rfl, hfz, hnd⟩ := hW
  have hA : DataW.TrodAll enc Try.prog W 0 (fun _ => true) true Try.f5.params.toList args.toList ds p := hA0
  rw [Try.params5] at hA hval
  obtain ⟨v0, vs0, d0, ds0, p0, q0, hargs, rfl, rfl, h0, r0⟩ := trodAll_cons hA
  obtain ⟨v1, vs1, d1, ds1, p1, q1, rfl, rfl, rfl, h1, r1⟩ := trodAll_cons r0
  obtain ⟨rfl, rfl, rfl⟩ := trodAll_nil r1
  obtain rfl : args = #[v0, v1] := by cases args; simp_all
  obtain ⟨rfl, rfl⟩ := trodVars_none hV
  have k0 := h0
  have lt0 : ∀ x ∈ p0, x.block < W.heap.size := by obtain ⟨m, hm⟩ := k0; exact DataW.trod_lt m _ _ _ hm
  obtain ⟨x0, y0, z0, rfl⟩ := open_arr3 (hval 0 31 v0 rfl rfl) h0
  have k1 := h1
  have lt1 : ∀ x ∈ p1, x.block < W.heap.size := by obtain ⟨m, hm⟩ := k1; exact DataW.trod_lt m _ _ _ hm
  obtain ⟨x1, e1, -, -, -⟩ := open_int Try.underlying3 (hval 1 3 v1 rfl rfl) h1
  subst e1
  clear hA0 hval0
  refine (chanceHot_walk x0 y0 z0 x1 W).mono fun e W' ⟨he, bel⟩ => ?_
  subst he
  exact ⟨_, rfl, _, _, _, [], _, [], hW', trodAll_mk1 (shut_bool Try.underlying4 _), (trodAll_cons_mk (Below.trod laidOut (by kernel_rfl) (of_decide_eq_true (by kernel_rfl)) k0 bel lt0) (trodAll_cons_mk (Below.trod laidOut (by kernel_rfl) (of_decide_eq_true (by kernel_rfl)) k1 bel lt1) trodAll_mk0)), rfl, bel.frame _, fun h => by cases h⟩

theorem chanceHot_jf9 : (Rows.chanceHotRow.inPlace == Try.prog.inPlace 5) = true := by kernel_rfl
theorem chanceHot_jf10 : (Rows.chanceHotRow.unfollowed == Try.prog.unfollowed 5) = true := by kernel_rfl
theorem chanceHot_jf11 : (Rows.chanceHotRow.recurses == Try.prog.recurses 5) = true := by kernel_rfl
theorem chanceHot_jf12 : (Rows.chanceHotRow.named == Try.prog.varsNamed 5) = true := by kernel_rfl
theorem chanceHot_facts : joinedFacts Try.prog 5 Try.f5 Rows.chanceHotSpec Rows.chanceHotRow = true := by
  unfold joinedFacts
  exact (band (band (band (band (band (band (band (band (band (band (band (band (band (band (band (band (band (band (band (band (band (band (band (band (band (band (band (band (band (band (band (by kernel_rfl) jf1) jf2) (by kernel_rfl)) (by kernel_rfl)) (by kernel_rfl)) jf6) (by kernel_rfl)) jf8) chanceHot_jf9) chanceHot_jf10) chanceHot_jf11) chanceHot_jf12) (by kernel_rfl)) (by kernel_rfl)) (by kernel_rfl)) (by kernel_rfl)) (by kernel_rfl)) (by kernel_rfl)) (by kernel_rfl)) (by kernel_rfl)) (by kernel_rfl)) (by kernel_rfl)) (by kernel_rfl)) jf24) jf25) jf26) jf27) (by kernel_rfl)) (by kernel_rfl)) (by kernel_rfl)) (by kernel_rfl))

theorem chanceHot_over : Rows.chanceHotRow.holds Try.pinned (OpenSpec.ofChange Rows.chanceHotSpec) :=
  OpenClaim.holds_of_wide 5 Try.f5 rfl rfl rfl rfl rfl rfl rfl ⟨rfl, rfl, rfl, rfl, rfl⟩ rfl rfl rfl rfl rfl (by kernel_rfl) Try.func5 chanceHot_facts
    (of_decide_eq_true (by kernel_rfl)) (by unfold Func.isWrapper; first | (rw [if_pos (by decide +kernel)]; kernel_rfl) | (rw [if_neg (by decide +kernel)]; exact ⟨rfl, rfl⟩))
    (fun os started H enc _ => chanceHot_lifted os started H enc)

theorem chanceHot_holds : Rows.ChanceHotSaid := chanceHot_over
#print axioms chanceHot_holds

end Go.Proofs.Ythloceljgmmdbaa
