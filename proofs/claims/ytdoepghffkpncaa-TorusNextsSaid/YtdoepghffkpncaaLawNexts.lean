/- TorusNexts: where a step leads is what the document says, for all sizes, sites and steps, and the opposite step leads back.
Conditions: none. -/
import Derived.Test.YtdoepghffkpncaaKnown2
namespace Go.Proofs.Ytdoepghffkpncaa
set_option linter.unusedVariables false
set_option linter.unusedSimpArgs false
set_option maxRecDepth 1000000
open Go.ChangeShapes Go.WideShapes Go.ChangeAt Go.RowKit
open Tm

set_option maxHeartbeats 1600000 in
theorem torusNexts_walk (a b c x y z s t d : Int) (w : World) : Calls Try.prog 5 #[.agg #[.int .i64 a, .int .i64 b, .int .i64 c], .agg #[.int .i64 x, .int .i64 y, .int .i64 z, .int .i64 s, .int .i64 t, .int .i64 d]] w fun e w' => e = .returned (.bool true) ∧ Below w.heap.size w w' := by
  have kn := known2_any
  obtain ⟨r, er, hr⟩ := nextR_ex a b c s t
  have n1 := fun W : World => nextO_any a b c s t r er W hr
  have n2 := fun W : World => ref_nextO_any a b c s t r er W hr
  by_cases hok : er = 0
  · subst hok
    rcases hr with ⟨_, _, h⟩ | ⟨_, _, _, h⟩ | ⟨_, _, _, _, _, h⟩ | ⟨h, h0, h1, ht, rfl, -⟩
    · exact absurd h (by decide)
    · exact absurd h (by decide)
    · exact absurd h (by decide)
    · obtain ⟨t1, t2, t3⟩ := ht
      have n3 := fun W : World => nextO_any a b c (nx a b c s t) (-t) s 0 W (.inr (.inr (.inr ⟨h, (nx_rng h s t).1, (nx_rng h s t).2, ⟨by omega, by omega, by omega⟩, (nx_back h h0 h1 t).symm, rfl⟩)))
      clear h h0 h1 t1
      generalize nx a b c s t = r at *
      go_enter Try.func5, Try.ntmps5
      go_wp2_with (first | ((with_reducible refine (n1 _).mono ?_); clear n1; rintro e w1 ⟨rfl, hw1⟩; have hc1 := Tail.cells hw1; have s1 := hw1.size; (try simp at s1); (try have z1_0 : w.heap.size < w1.heap.size := (by omega)); (try have z1_1 : w.heap.size + 1 < w1.heap.size := (by omega)); clear s1) | ((with_reducible refine (n2 _).mono ?_); clear n2; rintro e w2 ⟨rfl, hw2⟩; have hc2 := Tail.cells hw2; have s2 := hw2.size; (try simp at s2); (try have z2_0 : w.heap.size < w2.heap.size := (by omega)); (try have z2_1 : w.heap.size + 1 < w2.heap.size := (by omega)); (try have z2_2 : w1.heap.size < w2.heap.size := (by omega)); clear s2) | ((with_reducible refine (n3 _).mono ?_); clear n3; rintro e w3 ⟨rfl, hw3⟩; have hc3 := Tail.cells hw3; have s3 := hw3.size; (try simp at s3); (try have z3_0 : w.heap.size < w3.heap.size := (by omega)); (try have z3_1 : w.heap.size + 1 < w3.heap.size := (by omega)); (try have z3_2 : w1.heap.size < w3.heap.size := (by omega)); (try have z3_3 : w2.heap.size < w3.heap.size := (by omega)); clear s3) | ((with_reducible refine (kn _).mono ?_); clear kn; rintro e w4 ⟨rfl, hw4⟩; have hc4 := Tail.cells hw4; have s4 := hw4.size; (try simp at s4); (try have z4_0 : w.heap.size < w4.heap.size := (by omega)); (try have z4_1 : w.heap.size + 1 < w4.heap.size := (by omega)); (try have z4_2 : w1.heap.size < w4.heap.size := (by omega)); (try have z4_3 : w2.heap.size < w4.heap.size := (by omega)); (try have z4_4 : w3.heap.size < w4.heap.size := (by omega)); clear s4))
      go_ret
      exact ⟨rfl, by repeat (first | (with_reducible exact Below.refl _ _) | (with_reducible refine Below.setCell ?_ ?_ _) | (with_reducible refine Below.drew ?_) | (with_reducible refine Below.alloc ?_ ?_ _) | (with_reducible refine Below.trans ?_ (Below.mono hw4 ?_)) | (with_reducible refine Below.trans ?_ (Below.mono hw3 ?_)) | (with_reducible refine Below.trans ?_ (Below.mono hw2 ?_)) | (with_reducible refine Below.trans ?_ (Below.mono hw1 ?_)) | (with_reducible exact hw4.size) | (with_reducible exact hw3.size) | (with_reducible exact hw2.size) | (with_reducible exact hw1.size) | omega | (simp <;> omega) | (simp <;> (have s := hw4.size; omega)) | (simp <;> (have s := hw3.size; omega)) | (simp <;> (have s := hw2.size; omega)) | (simp <;> (have s := hw1.size; omega)) | (have s0 := hw4.size; (try simp at s0); have s1 := hw3.size; (try simp at s1); have s2 := hw2.size; (try simp at s2); have s3 := hw1.size; (try simp at s3); (try simp); omega))⟩
  · obtain ⟨r3, er3, hr3⟩ := nextR_ex a b c r (wrap64 (-t))
    have n3 := fun W : World => nextO_any a b c r (wrap64 (-t)) r3 er3 W hr3
    have hok1 : (er == 0) = false := by simpa using hok
    have hok2 : (er != 0) = true := by simpa using hok
    clear hr hr3 hok
    go_enter Try.func5, Try.ntmps5
    go_wp2_with (first | ((with_reducible refine (n1 _).mono ?_); clear n1; rintro e w1 ⟨rfl, hw1⟩; have hc1 := Tail.cells hw1; have s1 := hw1.size; (try simp at s1); (try have z1_0 : w.heap.size < w1.heap.size := (by omega)); (try have z1_1 : w.heap.size + 1 < w1.heap.size := (by omega)); clear s1) | ((with_reducible refine (n2 _).mono ?_); clear n2; rintro e w2 ⟨rfl, hw2⟩; have hc2 := Tail.cells hw2; have s2 := hw2.size; (try simp at s2); (try have z2_0 : w.heap.size < w2.heap.size := (by omega)); (try have z2_1 : w.heap.size + 1 < w2.heap.size := (by omega)); (try have z2_2 : w1.heap.size < w2.heap.size := (by omega)); clear s2) | ((with_reducible refine (n3 _).mono ?_); clear n3; rintro e w3 ⟨rfl, hw3⟩; have hc3 := Tail.cells hw3; have s3 := hw3.size; (try simp at s3); (try have z3_0 : w.heap.size < w3.heap.size := (by omega)); (try have z3_1 : w.heap.size + 1 < w3.heap.size := (by omega)); (try have z3_2 : w1.heap.size < w3.heap.size := (by omega)); (try have z3_3 : w2.heap.size < w3.heap.size := (by omega)); clear s3) | ((with_reducible refine (kn _).mono ?_); clear kn; rintro e w4 ⟨rfl, hw4⟩; have hc4 := Tail.cells hw4; have s4 := hw4.size; (try simp at s4); (try have z4_0 : w.heap.size < w4.heap.size := (by omega)); (try have z4_1 : w.heap.size + 1 < w4.heap.size := (by omega)); (try have z4_2 : w1.heap.size < w4.heap.size := (by omega)); (try have z4_3 : w2.heap.size < w4.heap.size := (by omega)); (try have z4_4 : w3.heap.size < w4.heap.size := (by omega)); clear s4))
    go_ret
    exact ⟨rfl, by repeat (first | (with_reducible exact Below.refl _ _) | (with_reducible refine Below.setCell ?_ ?_ _) | (with_reducible refine Below.drew ?_) | (with_reducible refine Below.alloc ?_ ?_ _) | (with_reducible refine Below.trans ?_ (Below.mono hw4 ?_)) | (with_reducible refine Below.trans ?_ (Below.mono hw3 ?_)) | (with_reducible refine Below.trans ?_ (Below.mono hw2 ?_)) | (with_reducible refine Below.trans ?_ (Below.mono hw1 ?_)) | (with_reducible exact hw4.size) | (with_reducible exact hw3.size) | (with_reducible exact hw2.size) | (with_reducible exact hw1.size) | omega | (simp <;> omega) | (simp <;> (have s := hw4.size; omega)) | (simp <;> (have s := hw3.size; omega)) | (simp <;> (have s := hw2.size; omega)) | (simp <;> (have s := hw1.size; omega)) | (have s0 := hw4.size; (try simp at s0); have s1 := hw3.size; (try simp at s1); have s2 := hw2.size; (try simp at s2); have s3 := hw1.size; (try simp at s3); (try simp); omega))⟩

/-! ### The statement of the law TorusNexts, out of its walk -/
set_option maxRecDepth 100000 in
theorem torusNexts_lifted (os : Os) (started : os.Started) (H : Type) (enc : TypeId × Value → H) :
    ReturnsInHanded {} Try.checked os 5 .any (Rows.torusNextsSpec.pre6 enc Try.prog Try.f5 Rows.torusNextsRow.domain false) (Rows.torusNextsSpec.post enc Try.prog Try.f5 false true false false) := by
  refine returnsInHanded_of_change (C := Try.checked) own started (by kernel_rfl) Try.func5
    (ChangeSpec.witness6 (enc := enc) (C := Try.checked) false ⟨#[], #[.agg #[.int .i64 0, .int .i64 0, .int .i64 0], .agg #[.int .i64 0, .int .i64 0, .int .i64 0, .int .i64 0, .int .i64 0, .int .i64 0]], []⟩ 8 (by kernel_rfl) (by kernel_rfl) (by kernel_rfl) (by kernel_rfl)) ?_
  intro W base args ds gs before hval0 hW hcnd _
  have hval : ∀ (j : Nat) t v, Try.f5.params[j]? = some t → args[j]? = some v → Value.okWide Try.prog W .any base t v := hval0
  have hW' := hW
  obtain ⟨p, q, hA0, hV, rfl, hfz, hnd⟩ := hW
  have hA : DataW.TrodAll enc Try.prog W 0 (fun _ => true) true Try.f5.params.toList args.toList ds p := hA0
  rw [Try.params5] at hA hval
  obtain ⟨v0, vs0, d0, ds0, p0, q0, hargs, rfl, rfl, h0, r0⟩ := trodAll_cons hA
  obtain ⟨v1, vs1, d1, ds1, p1, q1, rfl, rfl, rfl, h1, r1⟩ := trodAll_cons r0
  obtain ⟨rfl, rfl, rfl⟩ := trodAll_nil r1
  obtain rfl : args = #[v0, v1] := by cases args; simp_all
  obtain ⟨rfl, rfl⟩ := trodVars_none hV
  have k0 := h0
  have lt0 : ∀ x ∈ p0, x.block < W.heap.size := by obtain ⟨m, hm⟩ := k0; exact DataW.trod_lt m _ _ _ hm
  obtain ⟨x0, y0, z0, rfl⟩ := open_arr3 (hval 0 22 v0 rfl rfl) h0
  have k1 := h1
  have lt1 : ∀ x ∈ p1, x.block < W.heap.size := by obtain ⟨m, hm⟩ := k1; exact DataW.trod_lt m _ _ _ hm
  obtain ⟨x1, y1, z1, s1, t1, d1, rfl⟩ := open_where (hval 1 37 v1 rfl rfl) h1
  clear hA0 hval0
  refine (torusNexts_walk x0 y0 z0 x1 y1 z1 s1 t1 d1 W).mono fun e W' ⟨he, bel⟩ => ?_
  subst he
  exact ⟨_, rfl, _, _, _, [], _, [], hW', trodAll_mk1 (shut_bool Try.underlying4 _), (trodAll_cons_mk (Below.trod laidOut (by kernel_rfl) (of_decide_eq_true (by kernel_rfl)) k0 bel lt0) (trodAll_cons_mk (Below.trod laidOut (by kernel_rfl) (of_decide_eq_true (by kernel_rfl)) k1 bel lt1) trodAll_mk0)), rfl, bel.frame _, fun h => by cases h⟩

theorem torusNexts_over : Rows.torusNextsRow.holds Try.pinned (OpenSpec.ofChange Rows.torusNextsSpec) :=
  OpenClaim.holds_of_wide 5 Try.f5 rfl rfl rfl rfl rfl rfl rfl ⟨rfl, rfl, rfl, rfl, rfl⟩ rfl rfl rfl rfl rfl (by kernel_rfl) Try.func5 (by kernel_rfl)
    (of_decide_eq_true (by kernel_rfl)) (by unfold Func.isWrapper; first | (rw [if_pos (by decide +kernel)]; kernel_rfl) | (rw [if_neg (by decide +kernel)]; exact ⟨rfl, rfl⟩))
    (fun os started H enc _ => torusNexts_lifted os started H enc)

theorem torusNexts_holds : Rows.TorusNextsSaid := torusNexts_over
#print axioms torusNexts_holds

end Go.Proofs.Ytdoepghffkpncaa
