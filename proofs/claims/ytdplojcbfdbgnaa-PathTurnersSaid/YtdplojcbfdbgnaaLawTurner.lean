/- PathTurners: centered numbers and turners are what the document says, for all numbers and momenta, and the turner of the opposite momentum is the inverse.
Conditions: none. -/
import Derived.Test.YtdplojcbfdbgnaaSane6
import Derived.Test.YtdplojcbfdbgnaaEqU
import Derived.Test.YtdplojcbfdbgnaaOpenK
import Derived.Test.YtdplojcbfdbgnaaJFacts
namespace Go.Proofs.Ytdplojcbfdbgnaa
set_option linter.unusedVariables false
set_option linter.unusedSimpArgs false
set_option maxRecDepth 1000000
open Go.ChangeShapes Go.WideShapes Go.ChangeAt Go.RowKit
open Um Km

theorem turn_V (k : Kk) (hk : IsK k) : V (turn k) ∧ turn (opp k) = bar (turn k) := by
  obtain ⟨i, hi, h1⟩ := isN_nat hk.1
  obtain ⟨j, hj, h2⟩ := isN_nat hk.2.1
  obtain ⟨m, hm, h3⟩ := isN_nat hk.2.2
  have e : k = ⟨i, j, m⟩ := by cases k; simp only [Kk.mk.injEq]; exact ⟨h1, h2, h3⟩
  obtain ⟨a, b, n, hn, c⟩ := turn_bar i hi j hj m hm
  rw [e]
  refine ⟨?_, a⟩
  rw [← c]
  have h := small_v n hn
  have h2 := small_ok n hn
  exact ⟨⟨h.2.2, h.2.1⟩, h.1, by rcases h2 with h2 | h2 <;> omega⟩
theorem opp_mod {n : Int} (h : IsN n) : (8 - n) % 8 = oppN n := rfl
set_option maxHeartbeats 3200000 in
theorem pathTurners_walk (n x y z : Int) (w : World) : Calls Try.prog 4 #[.int .i64 n, .agg #[.int .i64 x, .int .i64 y, .int .i64 z]] w fun e w' => e = .returned (.bool true) ∧ Below w.heap.size w w' := by
  have kn := known6_any
  have qe := eqU
  have d1 := fun W : World => still (center_any n W)
  have d2 := fun W : World => refCenter_any n W
  have kc := @Tail.cell_re
  have kc1 : ∀ (W : World) (o : Obj) (d : Nat) (os : Array Obj) (a : Addr), a.block ≤ W.heap.size → (Sort.grow (redrawn (W.alloc o) d) os).cell? a = (W.alloc o).cell? a := fun W o d os a h => Tail.cell_re (W.alloc o) d os a (Nat.lt_of_le_of_lt h (by simp))
  by_cases hk : IsK ⟨x, y, z⟩
  · have c1 : ∀ W : World, Calls Try.prog 19 #[.agg #[.int .i64 x, .int .i64 y, .int .i64 z]] W _ := fun W : World => turnerO_any ⟨x, y, z⟩ W 0 _ (.inl ⟨hk, rfl, rfl⟩)
    have c2 : ∀ W : World, Calls Try.prog 20 #[.agg #[.int .i64 x, .int .i64 y, .int .i64 z]] W _ := fun W : World => refTurnerO_any ⟨x, y, z⟩ W 0 _ (.inl ⟨hk, rfl, rfl⟩)
    obtain ⟨hv, ho⟩ := turn_V _ hk
    have c3 : ∀ W : World, Calls Try.prog 19 #[.agg #[.int .i64 (oppN x), .int .i64 (oppN y), .int .i64 (oppN z)]] W _ := fun W : World => turnerO_any (opp ⟨x, y, z⟩) W 0 _ (.inl ⟨opp_isK hk, ho.symm, rfl⟩)
    have c4 := fun W : World => inv_ok (turn ⟨x, y, z⟩) W hv
    obtain ⟨⟨x0, x1⟩, ⟨y0, y1⟩, z0, z1⟩ := hk
    simp only at x0 x1 y0 y1 z0 z1
    have ex : (8 - x) % 8 = oppN x := rfl
    have ey : (8 - y) % 8 = oppN y := rfl
    have ez : (8 - z) % 8 = oppN z := rfl
    clear hv ho
    generalize bar (turn ⟨x, y, z⟩) = v at *
    generalize turn ⟨x, y, z⟩ = u at *
    generalize ctr n = q at *
    go_enter Try.func4, Try.ntmps4
    go_wp2_with (first | ((with_reducible refine (c1 _).mono ?_); clear c1; rintro e w1 ⟨rfl, hw1⟩; have hc1 := Tail.cells hw1; have s1 := hw1.size; (try simp at s1); (try have z1_0 : w.heap.size < w1.heap.size := (by omega)); clear s1) | ((with_reducible refine (c2 _).mono ?_); clear c2; rintro e w2 ⟨rfl, hw2⟩; have hc2 := Tail.cells hw2; have s2 := hw2.size; (try simp at s2); (try have z2_0 : w.heap.size < w2.heap.size := (by omega)); (try have z2_1 : w1.heap.size < w2.heap.size := (by omega)); clear s2) | ((with_reducible refine (d1 _).mono ?_); clear d1; rintro e w3 ⟨rfl, hw3⟩; have hc3 := Tail.cells hw3; have s3 := hw3.size; (try simp at s3); (try have z3_0 : w.heap.size < w3.heap.size := (by omega)); (try have z3_1 : w1.heap.size < w3.heap.size := (by omega)); (try have z3_2 : w2.heap.size < w3.heap.size := (by omega)); clear s3) | ((with_reducible refine (d2 _).mono ?_); clear d2; rintro e w4 ⟨rfl, hw4⟩; have hc4 := Tail.cells hw4; have s4 := hw4.size; (try simp at s4); (try have z4_0 : w.heap.size < w4.heap.size := (by omega)); (try have z4_1 : w1.heap.size < w4.heap.size := (by omega)); (try have z4_2 : w2.heap.size < w4.heap.size := (by omega)); (try have z4_3 : w3.heap.size < w4.heap.size := (by omega)); clear s4) | ((with_reducible refine (c3 _).mono ?_); clear c3; rintro e w5 ⟨rfl, hw5⟩; have hc5 := Tail.cells hw5; have s5 := hw5.size; (try simp at s5); (try have z5_0 : w.heap.size < w5.heap.size := (by omega)); (try have z5_1 : w1.heap.size < w5.heap.size := (by omega)); (try have z5_2 : w2.heap.size < w5.heap.size := (by omega)); (try have z5_3 : w3.heap.size < w5.heap.size := (by omega)); (try have z5_4 : w4.heap.size < w5.heap.size := (by omega)); clear s5) | ((with_reducible refine (c4 _).mono ?_); clear c4; rintro e w6 ⟨rfl, hw6⟩; have hc6 := Tail.cells hw6; have s6 := hw6.size; (try simp at s6); (try have z6_0 : w.heap.size < w6.heap.size := (by omega)); (try have z6_1 : w1.heap.size < w6.heap.size := (by omega)); (try have z6_2 : w2.heap.size < w6.heap.size := (by omega)); (try have z6_3 : w3.heap.size < w6.heap.size := (by omega)); (try have z6_4 : w4.heap.size < w6.heap.size := (by omega)); (try have z6_5 : w5.heap.size < w6.heap.size := (by omega)); clear s6) | ((with_reducible refine (kn _).mono ?_); clear kn; rintro e w7 ⟨rfl, hw7⟩; have hc7 := Tail.cells hw7; have s7 := hw7.size; (try simp at s7); (try have z7_0 : w.heap.size < w7.heap.size := (by omega)); (try have z7_1 : w1.heap.size < w7.heap.size := (by omega)); (try have z7_2 : w2.heap.size < w7.heap.size := (by omega)); (try have z7_3 : w3.heap.size < w7.heap.size := (by omega)); (try have z7_4 : w4.heap.size < w7.heap.size := (by omega)); (try have z7_5 : w5.heap.size < w7.heap.size := (by omega)); (try have z7_6 : w6.heap.size < w7.heap.size := (by omega)); clear s7))
    go_ret
    exact ⟨rfl, by repeat (first | (with_reducible exact Below.refl _ _) | (with_reducible refine Below.setCell ?_ ?_ _) | (with_reducible refine Below.drew ?_) | (with_reducible refine Below.alloc ?_ ?_ _) | (with_reducible refine Below.trans ?_ (Below.mono hw7 ?_)) | (with_reducible refine Below.trans ?_ (Below.mono hw6 ?_)) | (with_reducible refine Below.trans ?_ (Below.mono hw5 ?_)) | (with_reducible refine Below.trans ?_ (Below.mono hw4 ?_)) | (with_reducible refine Below.trans ?_ (Below.mono hw3 ?_)) | (with_reducible refine Below.trans ?_ (Below.mono hw2 ?_)) | (with_reducible refine Below.trans ?_ (Below.mono hw1 ?_)) | (with_reducible exact hw7.size) | (with_reducible exact hw6.size) | (with_reducible exact hw5.size) | (with_reducible exact hw4.size) | (with_reducible exact hw3.size) | (with_reducible exact hw2.size) | (with_reducible exact hw1.size) | omega | (simp <;> omega) | (simp <;> (have s := hw7.size; omega)) | (simp <;> (have s := hw6.size; omega)) | (simp <;> (have s := hw5.size; omega)) | (simp <;> (have s := hw4.size; omega)) | (simp <;> (have s := hw3.size; omega)) | (simp <;> (have s := hw2.size; omega)) | (simp <;> (have s := hw1.size; omega)) | (have s0 := hw7.size; (try simp at s0); have s1 := hw6.size; (try simp at s1); have s2 := hw5.size; (try simp at s2); have s3 := hw4.size; (try simp at s3); have s4 := hw3.size; (try simp at s4); have s5 := hw2.size; (try simp at s5); have s6 := hw1.size; (try simp at s6); (try simp); omega))⟩
  · have c1 : ∀ W : World, Calls Try.prog 19 #[.agg #[.int .i64 x, .int .i64 y, .int .i64 z]] W _ := fun W : World => turnerO_any ⟨x, y, z⟩ W 1 _ (.inr ⟨hk, rfl, rfl⟩)
    have c2 : ∀ W : World, Calls Try.prog 20 #[.agg #[.int .i64 x, .int .i64 y, .int .i64 z]] W _ := fun W : World => refTurnerO_any ⟨x, y, z⟩ W 1 _ (.inr ⟨hk, rfl, rfl⟩)
    clear hk
    generalize ctr n = q at *
    go_enter Try.func4, Try.ntmps4
    go_wp2_with (first | ((with_reducible refine (c1 _).mono ?_); clear c1; rintro e w1 ⟨rfl, hw1⟩; have hc1 := Tail.cells hw1; have s1 := hw1.size; (try simp at s1); (try have z1_0 : w.heap.size < w1.heap.size := (by omega)); clear s1) | ((with_reducible refine (c2 _).mono ?_); clear c2; rintro e w2 ⟨rfl, hw2⟩; have hc2 := Tail.cells hw2; have s2 := hw2.size; (try simp at s2); (try have z2_0 : w.heap.size < w2.heap.size := (by omega)); (try have z2_1 : w1.heap.size < w2.heap.size := (by omega)); clear s2) | ((with_reducible refine (d1 _).mono ?_); clear d1; rintro e w3 ⟨rfl, hw3⟩; have hc3 := Tail.cells hw3; have s3 := hw3.size; (try simp at s3); (try have z3_0 : w.heap.size < w3.heap.size := (by omega)); (try have z3_1 : w1.heap.size < w3.heap.size := (by omega)); (try have z3_2 : w2.heap.size < w3.heap.size := (by omega)); clear s3) | ((with_reducible refine (d2 _).mono ?_); clear d2; rintro e w4 ⟨rfl, hw4⟩; have hc4 := Tail.cells hw4; have s4 := hw4.size; (try simp at s4); (try have z4_0 : w.heap.size < w4.heap.size := (by omega)); (try have z4_1 : w1.heap.size < w4.heap.size := (by omega)); (try have z4_2 : w2.heap.size < w4.heap.size := (by omega)); (try have z4_3 : w3.heap.size < w4.heap.size := (by omega)); clear s4) | ((with_reducible refine (kn _).mono ?_); clear kn; rintro e w5 ⟨rfl, hw5⟩; have hc5 := Tail.cells hw5; have s5 := hw5.size; (try simp at s5); (try have z5_0 : w.heap.size < w5.heap.size := (by omega)); (try have z5_1 : w1.heap.size < w5.heap.size := (by omega)); (try have z5_2 : w2.heap.size < w5.heap.size := (by omega)); (try have z5_3 : w3.heap.size < w5.heap.size := (by omega)); (try have z5_4 : w4.heap.size < w5.heap.size := (by omega)); clear s5))
    go_ret
    exact ⟨rfl, by repeat (first | (with_reducible exact Below.refl _ _) | (with_reducible refine Below.setCell ?_ ?_ _) | (with_reducible refine Below.drew ?_) | (with_reducible refine Below.alloc ?_ ?_ _) | (with_reducible refine Below.trans ?_ (Below.mono hw5 ?_)) | (with_reducible refine Below.trans ?_ (Below.mono hw4 ?_)) | (with_reducible refine Below.trans ?_ (Below.mono hw3 ?_)) | (with_reducible refine Below.trans ?_ (Below.mono hw2 ?_)) | (with_reducible refine Below.trans ?_ (Below.mono hw1 ?_)) | (with_reducible exact hw5.size) | (with_reducible exact hw4.size) | (with_reducible exact hw3.size) | (with_reducible exact hw2.size) | (with_reducible exact hw1.size) | omega | (simp <;> omega) | (simp <;> (have s := hw5.size; omega)) | (simp <;> (have s := hw4.size; omega)) | (simp <;> (have s := hw3.size; omega)) | (simp <;> (have s := hw2.size; omega)) | (simp <;> (have s := hw1.size; omega)) | (have s0 := hw5.size; (try simp at s0); have s1 := hw4.size; (try simp at s1); have s2 := hw3.size; (try simp at s2); have s3 := hw2.size; (try simp at s3); have s4 := hw1.size; (try simp at s4); (try simp); omega))⟩

/-! ### The statement of the law PathTurners, out of its walk -/
set_option maxRecDepth 100000 in
theorem pathTurners_lifted (os : Os) (started : os.Started) (H : Type) (enc : TypeId × Value → H) :
    ReturnsInHanded {} Try.checked os 4 .any (Rows.pathTurnersSpec.pre6 enc Try.prog Try.f4 Rows.pathTurnersRow.domain false) (Rows.pathTurnersSpec.post enc Try.prog Try.f4 false true false false) := by
  refine returnsInHanded_of_change (C := Try.checked) own started (by kernel_rfl) Try.func4
    (ChangeSpec.witness6 (enc := enc) (C := Try.checked) false ⟨#[], #[.int .i64 0, .agg #[.int .i64 0, .int .i64 0, .int .i64 0]], []⟩ 8 (by kernel_rfl) (by kernel_rfl) (by kernel_rfl) (by kernel_rfl)) ?_
  intro W base args ds gs before hval0 hW hcnd _
  have hval : ∀ (j : Nat) t v, Try.f4.params[j]? = some t → args[j]? = some v → Value.okWide Try.prog W .any base t v := hval0
  have hW' := hW
  obtain ⟨p, q, hA0, hV, rfl, hfz, hnd⟩ := hW
  have hA : DataW.TrodAll enc Try.prog W 0 (fun _ => true) true Try.f4.params.toList args.toList ds p := hA0
  rw [Try.params4] at hA hval
  obtain ⟨v0, vs0, d0, ds0, p0, q0, hargs, rfl, rfl, h0, r0⟩ := trodAll_cons hA
  obtain ⟨v1, vs1, d1, ds1, p1, q1, rfl, rfl, rfl, h1, r1⟩ := trodAll_cons r0
  obtain ⟨rfl, rfl, rfl⟩ := trodAll_nil r1
  obtain rfl : args = #[v0, v1] := by cases args; simp_all
  obtain ⟨rfl, rfl⟩ := trodVars_none hV
  have k0 := h0
  have lt0 : ∀ x ∈ p0, x.block < W.heap.size := by obtain ⟨m, hm⟩ := k0; exact DataW.trod_lt m _ _ _ hm
  obtain ⟨x0, e0, -, -, -⟩ := open_int Try.underlying3 (hval 0 3 v0 rfl rfl) h0
  subst e0
  have k1 := h1
  have lt1 : ∀ x ∈ p1, x.block < W.heap.size := by obtain ⟨m, hm⟩ := k1; exact DataW.trod_lt m _ _ _ hm
  obtain ⟨x1, y1, z1, rfl⟩ := open_kick (hval 1 34 v1 rfl rfl) h1
  clear hA0 hval0
  refine (pathTurners_walk x0 x1 y1 z1 W).mono fun e W' ⟨he, bel⟩ => ?_
  subst he
  exact ⟨_, rfl, _, _, _, [], _, [], hW', trodAll_mk1 (shut_bool Try.underlying4 _), (trodAll_cons_mk (Below.trod laidOut (by kernel_rfl) (of_decide_eq_true (by kernel_rfl)) k0 bel lt0) (trodAll_cons_mk (Below.trod laidOut (by kernel_rfl) (of_decide_eq_true (by kernel_rfl)) k1 bel lt1) trodAll_mk0)), rfl, bel.frame _, fun h => by cases h⟩

theorem pathTurners_jf9 : (Rows.pathTurnersRow.inPlace == Try.prog.inPlace 4) = true := by kernel_rfl
theorem pathTurners_jf10 : (Rows.pathTurnersRow.unfollowed == Try.prog.unfollowed 4) = true := by kernel_rfl
theorem pathTurners_jf11 : (Rows.pathTurnersRow.recurses == Try.prog.recurses 4) = true := by kernel_rfl
theorem pathTurners_jf12 : (Rows.pathTurnersRow.named == Try.prog.varsNamed 4) = true := by kernel_rfl
theorem pathTurners_facts : joinedFacts Try.prog 4 Try.f4 Rows.pathTurnersSpec Rows.pathTurnersRow = true := by
  unfold joinedFacts
  exact (band (band (band (band (band (band (band (band (band (band (band (band (band (band (band (band (band (band (band (band (band (band (band (band (band (band (band (band (band (band (band (by kernel_rfl) jf1) jf2) (by kernel_rfl)) (by kernel_rfl)) (by kernel_rfl)) jf6) (by kernel_rfl)) jf8) pathTurners_jf9) pathTurners_jf10) pathTurners_jf11) pathTurners_jf12) (by kernel_rfl)) (by kernel_rfl)) (by kernel_rfl)) (by kernel_rfl)) (by kernel_rfl)) (by kernel_rfl)) (by kernel_rfl)) (by kernel_rfl)) (by kernel_rfl)) (by kernel_rfl)) (by kernel_rfl)) jf24) jf25) jf26) jf27) (by kernel_rfl)) (by kernel_rfl)) (by kernel_rfl)) (by kernel_rfl))

theorem pathTurners_over : Rows.pathTurnersRow.holds Try.pinned (OpenSpec.ofChange Rows.pathTurnersSpec) :=
  OpenClaim.holds_of_wide 4 Try.f4 rfl rfl rfl rfl rfl rfl rfl ⟨rfl, rfl, rfl, rfl, rfl⟩ rfl rfl rfl rfl rfl (by kernel_rfl) Try.func4 pathTurners_facts
    (of_decide_eq_true (by kernel_rfl)) (by unfold Func.isWrapper; first | (rw [if_pos (by decide +kernel)]; kernel_rfl) | (rw [if_neg (by decide +kernel)]; exact ⟨rfl, rfl⟩))
    (fun os started H enc _ => pathTurners_lifted os started H enc)

theorem pathTurners_holds : Rows.PathTurnersSaid := pathTurners_over
#print axioms pathTurners_holds

end Go.Proofs.Ytdplojcbfdbgnaa
