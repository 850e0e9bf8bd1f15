/- FermiSigns: the sign of a site in a direction, and the vectors of one point, are what the document says, for all sizes and numbers.
Conditions: none. -/
import Derived.Test.YtmnlfojcofdaeaaSane7
import Derived.Test.YtmnlfojcofdaeaaPtC
import Derived.Test.YtmnlfojcofdaeaaJFacts
namespace Go.Proofs.Ytmnlfojcofdaeaa
set_option linter.unusedVariables false
set_option linter.unusedSimpArgs false
set_option maxRecDepth 1000000
open Go.ChangeShapes Go.WideShapes Go.ChangeAt Go.RowKit
open Um Tm Fm

set_option maxHeartbeats 3200000 in
theorem fermiSigns_walk (a b c s d : Int) (w : World) : Calls Try.prog 4 #[.agg #[.int .i64 a, .int .i64 b, .int .i64 c], .int .i64 s, .int .i64 d] w fun e w' => e = .returned (.bool true) ∧ Below w.heap.size w w' := by
  have sn := sane7_any
  obtain ⟨r, er, hr⟩ := signR_ex a b c s d
  have n1 := fun W : World => signO_any a b c s d r er W hr
  have n2 := fun W : World => refSignO_any a b c s d r er W hr
  obtain ⟨ep, hp⟩ := ptR_ex a b c s d
  by_cases h0 : ep = 0
  · subst h0
    rcases hp with ⟨_, h⟩ | ⟨_, _, h⟩ | ⟨_, _, _, _, h⟩ | ⟨hz, h0, h1, d0, d3, -⟩
    · cases h
    · cases h
    · cases h
    · obtain ⟨sn', rfl⟩ := Int.eq_ofNat_of_zero_le h0
      obtain ⟨dn, rfl⟩ := Int.eq_ofNat_of_zero_le d0
      obtain ⟨-, -, p3, -⟩ := mul_rng hz.a1 hz.a4 hz.b1 hz.b4 hz.c1 hz.c4
      have p4 := hz.p
      obtain ⟨n, hn⟩ := Int.eq_ofNat_of_zero_le (show 0 ≤ a * b * c by omega)
      obtain ⟨P, hPl, hP⟩ := pt_ex n sn' dn (by omega) (by omega)
      have n3 := fun W : World => point_ok a b c n sn' dn P W hz hn.symm (by omega) (by omega) hP
      have n4 := fun W : World => refPoint_ok a b c n sn' dn P W hz hn.symm (by omega) (by omega) hP
      have sk := fun (W : World) (g k g' k' : Nat) (h1 : LiesI W g 0 (fl P)) (h2 : LiesI W g' 0 (fl P)) => sameS_some g 0 k g' 0 k' n P P W true h1 h2 hPl hPl (by omega) (decide_eq_true rfl).symm
      clear hr hz h0 h1 d0 d3 hP hPl p3 p4 hn
      go_enter Try.func4, Try.ntmps4
      go_wp2_with (first | ((with_reducible refine (n1 _).mono ?_); clear n1; rintro e w1 ⟨rfl, hw1⟩; have hc1 := Tail.cells hw1; have z1 := Nat.lt_of_lt_of_le (n := w.heap.size) (by simp <;> omega) hw1.size) | ((with_reducible refine (n2 _).mono ?_); clear n2; rintro e w2 ⟨rfl, hw2⟩; have hc2 := Tail.cells hw2; have z2 := Nat.lt_of_lt_of_le z1 hw2.size) | ((with_reducible refine (n3 _).mono ?_); clear n3; rintro e w3 ⟨⟨g3, k3, rfl, hb3⟩, hw3⟩; have hc3 := Tail.cells hw3; have z3 := Nat.lt_of_lt_of_le z2 hw3.size; have HB3 := Lib.hid hb3; clear hb3) | ((with_reducible refine (n4 _).mono ?_); clear n4; rintro e w4 ⟨⟨g4, k4, rfl, hb4⟩, hw4⟩; have HB4 := Lib.hid hb4; clear hb4) | ((with_reducible refine (sk _ _ _ _ _ (HB3.out.later hw4).liesI HB4.out.liesI).mono ?_); rintro e w5 ⟨rfl, hw5⟩) | ((with_reducible refine (sn _).mono ?_); rintro e w6 ⟨rfl, hw6⟩))
      go_ret
      exact ⟨rfl, by repeat (first | (with_reducible exact Below.refl _ _) | (with_reducible refine Below.setCell ?_ ?_ _) | (with_reducible refine Below.drew ?_) | (with_reducible refine Below.alloc ?_ ?_ _) | (with_reducible refine Below.trans ?_ (Below.mono hw6 ?_)) | (with_reducible refine Below.trans ?_ (Below.mono hw5 ?_)) | (with_reducible refine Below.trans ?_ (Below.mono hw4 ?_)) | (with_reducible refine Below.trans ?_ (Below.mono hw3 ?_)) | (with_reducible refine Below.trans ?_ (Below.mono hw2 ?_)) | (with_reducible refine Below.trans ?_ (Below.mono hw1 ?_)) | (with_reducible exact hw6.size) | (with_reducible exact hw5.size) | (with_reducible exact hw4.size) | (with_reducible exact hw3.size) | (with_reducible exact hw2.size) | (with_reducible exact hw1.size) | omega | (simp <;> omega) | (simp <;> (have s := hw6.size; omega)) | (simp <;> (have s := hw5.size; omega)) | (simp <;> (have s := hw4.size; omega)) | (simp <;> (have s := hw3.size; omega)) | (simp <;> (have s := hw2.size; omega)) | (simp <;> (have s := hw1.size; omega)) | (have s0 := hw6.size; (try simp at s0); have s1 := hw5.size; (try simp at s1); have s2 := hw4.size; (try simp at s2); have s3 := hw3.size; (try simp at s3); have s4 := hw2.size; (try simp at s4); have s5 := hw1.size; (try simp at s5); (try simp); omega))⟩
  · have n3 := fun W : World => point_bad a b c s d ep W hp h0
    have n4 := fun W : World => refPoint_bad a b c s d ep W hp h0
    have sk := fun W : World => sameS_nil none none 0 0 W
    clear hr hp h0
    go_enter Try.func4, Try.ntmps4
    go_wp2_with (first | ((with_reducible refine (n1 _).mono ?_); clear n1; rintro e w1 ⟨rfl, hw1⟩; have hc1 := Tail.cells hw1; have s1 := hw1.size; (try simp at s1); (try have z1_0 : w.heap.size < w1.heap.size := (by omega)); clear s1) | ((with_reducible refine (n2 _).mono ?_); clear n2; rintro e w2 ⟨rfl, hw2⟩; have hc2 := Tail.cells hw2; have s2 := hw2.size; (try simp at s2); (try have z2_0 : w.heap.size < w2.heap.size := (by omega)); (try have z2_1 : w1.heap.size < w2.heap.size := (by omega)); clear s2) | ((with_reducible refine (n3 _).mono ?_); clear n3; rintro e w3 ⟨rfl, hw3⟩; have hc3 := Tail.cells hw3; have s3 := hw3.size; (try simp at s3); (try have z3_0 : w.heap.size < w3.heap.size := (by omega)); (try have z3_1 : w1.heap.size < w3.heap.size := (by omega)); (try have z3_2 : w2.heap.size < w3.heap.size := (by omega)); clear s3) | ((with_reducible refine (n4 _).mono ?_); clear n4; rintro e w4 ⟨rfl, hw4⟩; have hc4 := Tail.cells hw4; have s4 := hw4.size; (try simp at s4); (try have z4_0 : w.heap.size < w4.heap.size := (by omega)); (try have z4_1 : w1.heap.size < w4.heap.size := (by omega)); (try have z4_2 : w2.heap.size < w4.heap.size := (by omega)); (try have z4_3 : w3.heap.size < w4.heap.size := (by omega)); clear s4) | ((with_reducible refine (sk _).mono ?_); clear sk; rintro e w5 ⟨rfl, hw5⟩; have hc5 := Tail.cells hw5; have s5 := hw5.size; (try simp at s5); (try have z5_0 : w.heap.size < w5.heap.size := (by omega)); (try have z5_1 : w1.heap.size < w5.heap.size := (by omega)); (try have z5_2 : w2.heap.size < w5.heap.size := (by omega)); (try have z5_3 : w3.heap.size < w5.heap.size := (by omega)); (try have z5_4 : w4.heap.size < w5.heap.size := (by omega)); clear s5) | ((with_reducible refine (sn _).mono ?_); clear sn; rintro e w6 ⟨rfl, hw6⟩; have hc6 := Tail.cells hw6; have s6 := hw6.size; (try simp at s6); (try have z6_0 : w.heap.size < w6.heap.size := (by omega)); (try have z6_1 : w1.heap.size < w6.heap.size := (by omega)); (try have z6_2 : w2.heap.size < w6.heap.size := (by omega)); (try have z6_3 : w3.heap.size < w6.heap.size := (by omega)); (try have z6_4 : w4.heap.size < w6.heap.size := (by omega)); (try have z6_5 : w5.heap.size < w6.heap.size := (by omega)); clear s6))
    go_ret
    exact ⟨rfl, by repeat (first | (with_reducible exact Below.refl _ _) | (with_reducible refine Below.setCell ?_ ?_ _) | (with_reducible refine Below.drew ?_) | (with_reducible refine Below.alloc ?_ ?_ _) | (with_reducible refine Below.trans ?_ (Below.mono hw6 ?_)) | (with_reducible refine Below.trans ?_ (Below.mono hw5 ?_)) | (with_reducible refine Below.trans ?_ (Below.mono hw4 ?_)) | (with_reducible refine Below.trans ?_ (Below.mono hw3 ?_)) | (with_reducible refine Below.trans ?_ (Below.mono hw2 ?_)) | (with_reducible refine Below.trans ?_ (Below.mono hw1 ?_)) | (with_reducible exact hw6.size) | (with_reducible exact hw5.size) | (with_reducible exact hw4.size) | (with_reducible exact hw3.size) | (with_reducible exact hw2.size) | (with_reducible exact hw1.size) | omega | (simp <;> omega) | (simp <;> (have s := hw6.size; omega)) | (simp <;> (have s := hw5.size; omega)) | (simp <;> (have s := hw4.size; omega)) | (simp <;> (have s := hw3.size; omega)) | (simp <;> (have s := hw2.size; omega)) | (simp <;> (have s := hw1.size; omega)) | (have s0 := hw6.size; (try simp at s0); have s1 := hw5.size; (try simp at s1); have s2 := hw4.size; (try simp at s2); have s3 := hw3.size; (try simp at s3); have s4 := hw2.size; (try simp at s4); have s5 := hw1.size; (try simp at s5); (try simp); omega))⟩

/-! ### The statement of the law FermiSigns, out of its walk -/
set_option maxRecDepth 100000 in
theorem fermiSigns_lifted (os : Os) (started : os.Started) (H : Type) (enc : TypeId × Value → H) :
    ReturnsInHanded {} Try.checked os 4 .any (Rows.fermiSignsSpec.pre6 enc Try.prog Try.f4 Rows.fermiSignsRow.domain false) (Rows.fermiSignsSpec.post enc Try.prog Try.f4 false true false false) := by
  refine returnsInHanded_of_change (C := Try.checked) own started (by kernel_rfl) Try.func4
    (ChangeSpec.witness6 (enc := enc) (C := Try.checked) false ⟨#[], #[.agg #[.int .i64 0, .int .i64 0, .int .i64 0], .int .i64 0, .int .i64 0], []⟩ 8 (by kernel_rfl) (by kernel_rfl) (by kernel_rfl) (by kernel_rfl)) ?_
  intro W base args ds gs before hval0 hW hcnd _
  have hval : ∀ (j : Nat) t v, Try.f4.params[j]? = some t → args[j]? = some v → Value.okWide Try.prog W .any base t v := hval0
  have hW' := hW
  obtain ⟨p, q, hA0, hV, rfl, hfz, hnd⟩ := hW
  have hA : DataW.TrodAll enc Try.prog W 0 (fun _ => true) true Try.f4.params.toList args.toList ds p := hA0
  rw [Try.params4] at hA hval
  obtain ⟨v0, vs0, d0, ds0, p0, q0, hargs, rfl, rfl, h0, r0⟩ := trodAll_cons hA
  obtain ⟨v1, vs1, d1, ds1, p1, q1, rfl, rfl, rfl, h1, r1⟩ := trodAll_cons r0
  obtain ⟨v2, vs2, d2, ds2, p2, q2, rfl, rfl, rfl, h2, r2⟩ := trodAll_cons r1
  obtain ⟨rfl, rfl, rfl⟩ := trodAll_nil r2
  obtain rfl : args = #[v0, v1, v2] := by cases args; simp_all
  obtain ⟨rfl, rfl⟩ := trodVars_none hV
  have k0 := h0
  have lt0 : ∀ x ∈ p0, x.block < W.heap.size := by obtain ⟨m, hm⟩ := k0; exact DataW.trod_lt m _ _ _ hm
  obtain ⟨x0, y0, z0, rfl⟩ := open_arr3 (hval 0 22 v0 rfl rfl) h0
  have k1 := h1
  have lt1 : ∀ x ∈ p1, x.block < W.heap.size := by obtain ⟨m, hm⟩ := k1; exact DataW.trod_lt m _ _ _ hm
  obtain ⟨x1, e1, -, -, -⟩ := open_int Try.underlying3 (hval 1 3 v1 rfl rfl) h1
  subst e1
  have k2 := h2
  have lt2 : ∀ x ∈ p2, x.block < W.heap.size := by obtain ⟨m, hm⟩ := k2; exact DataW.trod_lt m _ _ _ hm
  obtain ⟨x2, e2, -, -, -⟩ := open_int Try.underlying3 (hval 2 3 v2 rfl rfl) h2
  subst e2
  clear hA0 hval0
  refine (fermiSigns_walk x0 y0 z0 x1 x2 W).mono fun e W' ⟨he, bel⟩ => ?_
  subst he
  exact ⟨_, rfl, _, _, _, [], _, [], hW', trodAll_mk1 (shut_bool Try.underlying4 _), (trodAll_cons_mk (Below.trod laidOut (by kernel_rfl) (of_decide_eq_true (by kernel_rfl)) k0 bel lt0) (trodAll_cons_mk (Below.trod laidOut (by kernel_rfl) (of_decide_eq_true (by kernel_rfl)) k1 bel lt1) (trodAll_cons_mk (Below.trod laidOut (by kernel_rfl) (of_decide_eq_true (by kernel_rfl)) k2 bel lt2) trodAll_mk0))), rfl, bel.frame _, fun h => by cases h⟩

theorem fermiSigns_jf9 : (Rows.fermiSignsRow.inPlace == Try.prog.inPlace 4) = true := by kernel_rfl
theorem fermiSigns_jf10 : (Rows.fermiSignsRow.unfollowed == Try.prog.unfollowed 4) = true := by kernel_rfl
theorem fermiSigns_jf11 : (Rows.fermiSignsRow.recurses == Try.prog.recurses 4) = true := by kernel_rfl
theorem fermiSigns_jf12 : (Rows.fermiSignsRow.named == Try.prog.varsNamed 4) = true := by kernel_rfl
theorem fermiSigns_facts : joinedFacts Try.prog 4 Try.f4 Rows.fermiSignsSpec Rows.fermiSignsRow = true := by
  unfold joinedFacts
  exact (band (band (band (band (band (band (band (band (band (band (band (band (band (band (band (band (band (band (band (band (band (band (band (band (band (band (band (band (band (band (band (by kernel_rfl) jf1) jf2) (by kernel_rfl)) (by kernel_rfl)) (by kernel_rfl)) jf6) (by kernel_rfl)) jf8) fermiSigns_jf9) fermiSigns_jf10) fermiSigns_jf11) fermiSigns_jf12) (by kernel_rfl)) (by kernel_rfl)) (by kernel_rfl)) (by kernel_rfl)) (by kernel_rfl)) (by kernel_rfl)) (by kernel_rfl)) (by kernel_rfl)) (by kernel_rfl)) (by kernel_rfl)) (by kernel_rfl)) jf24) jf25) jf26) jf27) (by kernel_rfl)) (by kernel_rfl)) (by kernel_rfl)) (by kernel_rfl))

theorem fermiSigns_over : Rows.fermiSignsRow.holds Try.pinned (OpenSpec.ofChange Rows.fermiSignsSpec) :=
  OpenClaim.holds_of_wide 4 Try.f4 rfl rfl rfl rfl rfl rfl rfl ⟨rfl, rfl, rfl, rfl, rfl⟩ rfl rfl rfl rfl rfl (by kernel_rfl) Try.func4 fermiSigns_facts
    (of_decide_eq_true (by kernel_rfl)) (by unfold Func.isWrapper; first | (rw [if_pos (by decide +kernel)]; kernel_rfl) | (rw [if_neg (by decide +kernel)]; exact ⟨rfl, rfl⟩))
    (fun os started H enc _ => fermiSigns_lifted os started H enc)

theorem fermiSigns_holds : Rows.FermiSignsSaid := fermiSigns_over
#print axioms fermiSigns_holds

end Go.Proofs.Ytmnlfojcofdaeaa
