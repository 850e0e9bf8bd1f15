/- QuatAssociates: of three units it does not matter which two are multiplied first, where no product is too large.
Conditions: none. -/
import Derived.Test.YtecoemdpfpdeoaaMulCases
namespace Go.Proofs.Ytecoemdpfpdeoaa
set_option linter.unusedVariables false
set_option linter.unusedSimpArgs false
open Go.ChangeShapes Go.WideShapes Go.ChangeAt Go.RowKit
open Um

set_option maxRecDepth 100000 in
set_option maxHeartbeats 1600000 in
theorem quatAssociates_walk (x y z : Q) (w : World) : Calls Try.prog 6 #[.agg #[.int .i64 x.a, .int .i64 x.b, .int .i64 x.c, .int .i64 x.d, .int .i64 x.n], .agg #[.int .i64 y.a, .int .i64 y.b, .int .i64 y.c, .int .i64 y.d, .int .i64 y.n], .agg #[.int .i64 z.a, .int .i64 z.b, .int .i64 z.c, .int .i64 z.d, .int .i64 z.n]] w fun e w' => e = .returned (.bool true) ∧ Below w.heap.size w w' := by
  have kn := known_any
  obtain ⟨a, ea, ma, -, ca⟩ := mul_cases x y
  obtain ⟨b, eb, mb, -, cb⟩ := mul_cases a z
  obtain ⟨c, ec, mc, -, cc⟩ := mul_cases y z
  obtain ⟨d, ed, md, -, cd⟩ := mul_cases x c
  by_cases h1 : ea = 0
  · by_cases h2 : ec = 0
    · have same : b = d ∧ eb = ed := by
        rcases ca with ⟨hx, hy, ha, ea', _⟩ | ⟨_, _, _, _, h⟩ | ⟨_, _, h⟩
        · rcases cc with ⟨_, hz, hc, ec', _⟩ | ⟨_, _, _, _, h⟩ | ⟨_, _, h⟩
          · have e : low (mul a z) = low (mul x c) := by rw [ea', ec']; exact low_assoc x y z hx.u.pos hy.u.pos hz.u.pos
            rcases cb with ⟨_, _, _, r1, f1⟩ | ⟨_, _, l1, r1, f1⟩ | ⟨h, _, _⟩
            · rcases cd with ⟨_, _, _, r2, f2⟩ | ⟨_, _, l2, r2, f2⟩ | ⟨h, _, _⟩
              · exact ⟨by rw [r1, r2, e], by omega⟩
              · rw [← e, ← r1] at l2
                have : V b := by assumption
                have := this.le; omega
              · rcases h with h | h
                · exact absurd hx h
                · exact absurd hc h
            · rcases cd with ⟨_, _, v, r2, f2⟩ | ⟨_, _, l2, r2, f2⟩ | ⟨h, _, _⟩
              · rw [e, ← r2] at l1
                have := v.le; omega
              · exact ⟨by rw [r1, r2], by omega⟩
              · rcases h with h | h
                · exact absurd hx h
                · exact absurd hc h
            · rcases h with h | h
              · exact absurd ha h
              · exact absurd hz h
          · omega
          · omega
        · omega
        · omega
      obtain ⟨rfl, rfl⟩ := same
      clear ca cb cc cd
      subst h1 h2
      go_enter Try.func6, Try.ntmps6
      go_wp2_with (first | ((with_reducible refine (ma _).mono ?_); rintro e w1 ⟨rfl, hw1⟩; have hc1 := Tail.cells hw1; have s1 := hw1.size; (try simp at s1); have z1_0 : w.heap.size < w1.heap.size := (by omega); have z1_1 : w.heap.size + 1 < w1.heap.size := (by omega); have z1_2 : w.heap.size + 2 < w1.heap.size := (by omega); clear s1) | ((with_reducible refine (mb _).mono ?_); rintro e w2 ⟨rfl, hw2⟩; have hc2 := Tail.cells hw2; have s2 := hw2.size; (try simp at s2); have z2_0 : w.heap.size < w2.heap.size := (by omega); have z2_1 : w.heap.size + 1 < w2.heap.size := (by omega); have z2_2 : w.heap.size + 2 < w2.heap.size := (by omega); have z2_3 : w1.heap.size < w2.heap.size := (by omega); clear s2) | ((with_reducible refine (mc _).mono ?_); rintro e w3 ⟨rfl, hw3⟩; have hc3 := Tail.cells hw3; have s3 := hw3.size; (try simp at s3); have z3_0 : w.heap.size < w3.heap.size := (by omega); have z3_1 : w.heap.size + 1 < w3.heap.size := (by omega); have z3_2 : w.heap.size + 2 < w3.heap.size := (by omega); have z3_3 : w1.heap.size < w3.heap.size := (by omega); have z3_4 : w2.heap.size < w3.heap.size := (by omega); clear s3) | ((with_reducible refine (md _).mono ?_); rintro e w4 ⟨rfl, hw4⟩; have hc4 := Tail.cells hw4; have s4 := hw4.size; (try simp at s4); have z4_0 : w.heap.size < w4.heap.size := (by omega); have z4_1 : w.heap.size + 1 < w4.heap.size := (by omega); have z4_2 : w.heap.size + 2 < w4.heap.size := (by omega); have z4_3 : w1.heap.size < w4.heap.size := (by omega); have z4_4 : w2.heap.size < w4.heap.size := (by omega); have z4_5 : w3.heap.size < w4.heap.size := (by omega); clear s4) | ((with_reducible refine (kn _).mono ?_); rintro e w5 ⟨rfl, hw5⟩; have hc5 := Tail.cells hw5; have s5 := hw5.size; (try simp at s5); have z5_0 : w.heap.size < w5.heap.size := (by omega); have z5_1 : w.heap.size + 1 < w5.heap.size := (by omega); have z5_2 : w.heap.size + 2 < w5.heap.size := (by omega); have z5_3 : w1.heap.size < w5.heap.size := (by omega); have z5_4 : w2.heap.size < w5.heap.size := (by omega); have z5_5 : w3.heap.size < w5.heap.size := (by omega); have z5_6 : w4.heap.size < w5.heap.size := (by omega); clear s5))
      go_ret
      exact ⟨rfl, by repeat (first | (with_reducible exact Below.refl _ _) | (with_reducible refine Below.setCell ?_ ?_ _) | (with_reducible refine Below.drew ?_) | (with_reducible refine Below.alloc ?_ ?_ _) | (refine Below.trans ?_ (Below.mono hw5 ?_)) | (refine Below.trans ?_ (Below.mono hw4 ?_)) | (refine Below.trans ?_ (Below.mono hw3 ?_)) | (refine Below.trans ?_ (Below.mono hw2 ?_)) | (refine Below.trans ?_ (Below.mono hw1 ?_)) | (exact hw5.size) | (exact hw4.size) | (exact hw3.size) | (exact hw2.size) | (exact hw1.size) | omega | (simp <;> omega) | (simp <;> (have s := hw5.size; omega)) | (simp <;> (have s := hw4.size; omega)) | (simp <;> (have s := hw3.size; omega)) | (simp <;> (have s := hw2.size; omega)) | (simp <;> (have s := hw1.size; omega)))⟩
    · have h2' : (ec == 0) = false := by simpa using h2
      have h2'' : (ec != 0) = true := by simpa using h2
      clear ca cb cc cd h2
      subst h1
      go_enter Try.func6, Try.ntmps6
      go_wp2_with (first | ((with_reducible refine (ma _).mono ?_); rintro e w1 ⟨rfl, hw1⟩; have hc1 := Tail.cells hw1; have s1 := hw1.size; (try simp at s1); have z1_0 : w.heap.size < w1.heap.size := (by omega); have z1_1 : w.heap.size + 1 < w1.heap.size := (by omega); have z1_2 : w.heap.size + 2 < w1.heap.size := (by omega); clear s1) | ((with_reducible refine (mb _).mono ?_); rintro e w2 ⟨rfl, hw2⟩; have hc2 := Tail.cells hw2; have s2 := hw2.size; (try simp at s2); have z2_0 : w.heap.size < w2.heap.size := (by omega); have z2_1 : w.heap.size + 1 < w2.heap.size := (by omega); have z2_2 : w.heap.size + 2 < w2.heap.size := (by omega); have z2_3 : w1.heap.size < w2.heap.size := (by omega); clear s2) | ((with_reducible refine (mc _).mono ?_); rintro e w3 ⟨rfl, hw3⟩; have hc3 := Tail.cells hw3; have s3 := hw3.size; (try simp at s3); have z3_0 : w.heap.size < w3.heap.size := (by omega); have z3_1 : w.heap.size + 1 < w3.heap.size := (by omega); have z3_2 : w.heap.size + 2 < w3.heap.size := (by omega); have z3_3 : w1.heap.size < w3.heap.size := (by omega); have z3_4 : w2.heap.size < w3.heap.size := (by omega); clear s3) | ((with_reducible refine (md _).mono ?_); rintro e w4 ⟨rfl, hw4⟩; have hc4 := Tail.cells hw4; have s4 := hw4.size; (try simp at s4); have z4_0 : w.heap.size < w4.heap.size := (by omega); have z4_1 : w.heap.size + 1 < w4.heap.size := (by omega); have z4_2 : w.heap.size + 2 < w4.heap.size := (by omega); have z4_3 : w1.heap.size < w4.heap.size := (by omega); have z4_4 : w2.heap.size < w4.heap.size := (by omega); have z4_5 : w3.heap.size < w4.heap.size := (by omega); clear s4) | ((with_reducible refine (kn _).mono ?_); rintro e w5 ⟨rfl, hw5⟩; have hc5 := Tail.cells hw5; have s5 := hw5.size; (try simp at s5); have z5_0 : w.heap.size < w5.heap.size := (by omega); have z5_1 : w.heap.size + 1 < w5.heap.size := (by omega); have z5_2 : w.heap.size + 2 < w5.heap.size := (by omega); have z5_3 : w1.heap.size < w5.heap.size := (by omega); have z5_4 : w2.heap.size < w5.heap.size := (by omega); have z5_5 : w3.heap.size < w5.heap.size := (by omega); have z5_6 : w4.heap.size < w5.heap.size := (by omega); clear s5))
      go_ret
      exact ⟨rfl, by repeat (first | (with_reducible exact Below.refl _ _) | (with_reducible refine Below.setCell ?_ ?_ _) | (with_reducible refine Below.drew ?_) | (with_reducible refine Below.alloc ?_ ?_ _) | (refine Below.trans ?_ (Below.mono hw5 ?_)) | (refine Below.trans ?_ (Below.mono hw4 ?_)) | (refine Below.trans ?_ (Below.mono hw3 ?_)) | (refine Below.trans ?_ (Below.mono hw2 ?_)) | (refine Below.trans ?_ (Below.mono hw1 ?_)) | (exact hw5.size) | (exact hw4.size) | (exact hw3.size) | (exact hw2.size) | (exact hw1.size) | omega | (simp <;> omega) | (simp <;> (have s := hw5.size; omega)) | (simp <;> (have s := hw4.size; omega)) | (simp <;> (have s := hw3.size; omega)) | (simp <;> (have s := hw2.size; omega)) | (simp <;> (have s := hw1.size; omega)))⟩
  · have h1' : (ea == 0) = false := by simpa using h1
    have h1'' : (ea != 0) = true := by simpa using h1
    clear ca cb cc cd h1
    go_enter Try.func6, Try.ntmps6
    go_wp2_with (first | ((with_reducible refine (ma _).mono ?_); rintro e w1 ⟨rfl, hw1⟩; have hc1 := Tail.cells hw1; have s1 := hw1.size; (try simp at s1); have z1_0 : w.heap.size < w1.heap.size := (by omega); have z1_1 : w.heap.size + 1 < w1.heap.size := (by omega); have z1_2 : w.heap.size + 2 < w1.heap.size := (by omega); clear s1) | ((with_reducible refine (mb _).mono ?_); rintro e w2 ⟨rfl, hw2⟩; have hc2 := Tail.cells hw2; have s2 := hw2.size; (try simp at s2); have z2_0 : w.heap.size < w2.heap.size := (by omega); have z2_1 : w.heap.size + 1 < w2.heap.size := (by omega); have z2_2 : w.heap.size + 2 < w2.heap.size := (by omega); have z2_3 : w1.heap.size < w2.heap.size := (by omega); clear s2) | ((with_reducible refine (mc _).mono ?_); rintro e w3 ⟨rfl, hw3⟩; have hc3 := Tail.cells hw3; have s3 := hw3.size; (try simp at s3); have z3_0 : w.heap.size < w3.heap.size := (by omega); have z3_1 : w.heap.size + 1 < w3.heap.size := (by omega); have z3_2 : w.heap.size + 2 < w3.heap.size := (by omega); have z3_3 : w1.heap.size < w3.heap.size := (by omega); have z3_4 : w2.heap.size < w3.heap.size := (by omega); clear s3) | ((with_reducible refine (md _).mono ?_); rintro e w4 ⟨rfl, hw4⟩; have hc4 := Tail.cells hw4; have s4 := hw4.size; (try simp at s4); have z4_0 : w.heap.size < w4.heap.size := (by omega); have z4_1 : w.heap.size + 1 < w4.heap.size := (by omega); have z4_2 : w.heap.size + 2 < w4.heap.size := (by omega); have z4_3 : w1.heap.size < w4.heap.size := (by omega); have z4_4 : w2.heap.size < w4.heap.size := (by omega); have z4_5 : w3.heap.size < w4.heap.size := (by omega); clear s4) | ((with_reducible refine (kn _).mono ?_); rintro e w5 ⟨rfl, hw5⟩; have hc5 := Tail.cells hw5; have s5 := hw5.size; (try simp at s5); have z5_0 : w.heap.size < w5.heap.size := (by omega); have z5_1 : w.heap.size + 1 < w5.heap.size := (by omega); have z5_2 : w.heap.size + 2 < w5.heap.size := (by omega); have z5_3 : w1.heap.size < w5.heap.size := (by omega); have z5_4 : w2.heap.size < w5.heap.size := (by omega); have z5_5 : w3.heap.size < w5.heap.size := (by omega); have z5_6 : w4.heap.size < w5.heap.size := (by omega); clear s5))
    go_ret
    exact ⟨rfl, by repeat (first | (with_reducible exact Below.refl _ _) | (with_reducible refine Below.setCell ?_ ?_ _) | (with_reducible refine Below.drew ?_) | (with_reducible refine Below.alloc ?_ ?_ _) | (refine Below.trans ?_ (Below.mono hw5 ?_)) | (refine Below.trans ?_ (Below.mono hw4 ?_)) | (refine Below.trans ?_ (Below.mono hw3 ?_)) | (refine Below.trans ?_ (Below.mono hw2 ?_)) | (refine Below.trans ?_ (Below.mono hw1 ?_)) | (exact hw5.size) | (exact hw4.size) | (exact hw3.size) | (exact hw2.size) | (exact hw1.size) | omega | (simp <;> omega) | (simp <;> (have s := hw5.size; omega)) | (simp <;> (have s := hw4.size; omega)) | (simp <;> (have s := hw3.size; omega)) | (simp <;> (have s := hw2.size; omega)) | (simp <;> (have s := hw1.size; omega)))⟩

/-! ### The statement of the law QuatAssociates, out of its walk -/
set_option maxRecDepth 100000 in
theorem quatAssociates_lifted (os : Os) (started : os.Started) (H : Type) (enc : TypeId × Value → H) :
    ReturnsInHanded {} Try.checked os 6 .any (Rows.quatAssociatesSpec.pre6 enc Try.prog Try.f6 Rows.quatAssociatesRow.domain false) (Rows.quatAssociatesSpec.post enc Try.prog Try.f6 false true false false) := by
  refine returnsInHanded_of_change (C := Try.checked) own started (by kernel_rfl) Try.func6
    (ChangeSpec.witness6 (enc := enc) (C := Try.checked) false ⟨#[], #[.agg #[.int .i64 0, .int .i64 0, .int .i64 0, .int .i64 0, .int .i64 0], .agg #[.int .i64 0, .int .i64 0, .int .i64 0, .int .i64 0, .int .i64 0], .agg #[.int .i64 0, .int .i64 0, .int .i64 0, .int .i64 0, .int .i64 0]], []⟩ 8 (by kernel_rfl) (by kernel_rfl) (by kernel_rfl) (by kernel_rfl)) ?_
  intro W base args ds gs before hval0 hW hcnd _
  have hval : ∀ (j : Nat) t v, Try.f6.params[j]? = some t → args[j]? = some v → Value.okWide Try.prog W .any base t v := hval0
  have hW' := hW
  obtain ⟨p, q, hA0, hV, rfl, hfz, hnd⟩ := hW
  have hA : DataW.TrodAll enc Try.prog W 0 (fun _ => true) true Try.f6.params.toList args.toList ds p := hA0
  rw [Try.params6] at hA hval
  obtain ⟨v0, vs0, d0, ds0, p0, q0, hargs, rfl, rfl, h0, r0⟩ := trodAll_cons hA
  obtain ⟨v1, vs1, d1, ds1, p1, q1, rfl, rfl, rfl, h1, r1⟩ := trodAll_cons r0
  obtain ⟨v2, vs2, d2, ds2, p2, q2, rfl, rfl, rfl, h2, r2⟩ := trodAll_cons r1
  obtain ⟨rfl, rfl, rfl⟩ := trodAll_nil r2
  obtain rfl : args = #[v0, v1, v2] := by cases args; simp_all
  obtain ⟨rfl, rfl⟩ := trodVars_none hV
  have k0 := h0
  have lt0 : ∀ x ∈ p0, x.block < W.heap.size := by obtain ⟨m, hm⟩ := k0; exact DataW.trod_lt m _ _ _ hm
  obtain ⟨x0, rfl⟩ := open_unit (hval 0 23 v0 rfl rfl) h0
  have k1 := h1
  have lt1 : ∀ x ∈ p1, x.block < W.heap.size := by obtain ⟨m, hm⟩ := k1; exact DataW.trod_lt m _ _ _ hm
  obtain ⟨x1, rfl⟩ := open_unit (hval 1 23 v1 rfl rfl) h1
  have k2 := h2
  have lt2 : ∀ x ∈ p2, x.block < W.heap.size := by obtain ⟨m, hm⟩ := k2; exact DataW.trod_lt m _ _ _ hm
  obtain ⟨x2, rfl⟩ := open_unit (hval 2 23 v2 rfl rfl) h2
  clear hA0 hval0
  refine (quatAssociates_walk x0 x1 x2 W).mono fun e W' ⟨he, bel⟩ => ?_
  subst he
  exact ⟨_, rfl, _, _, _, [], _, [], hW', trodAll_mk1 (shut_bool Try.underlying4 _), (trodAll_cons_mk (Below.trod laidOut (by kernel_rfl) (of_decide_eq_true (by kernel_rfl)) k0 bel lt0) (trodAll_cons_mk (Below.trod laidOut (by kernel_rfl) (of_decide_eq_true (by kernel_rfl)) k1 bel lt1) (trodAll_cons_mk (Below.trod laidOut (by kernel_rfl) (of_decide_eq_true (by kernel_rfl)) k2 bel lt2) trodAll_mk0))), rfl, bel.frame _, fun h => by cases h⟩

theorem quatAssociates_over : Rows.quatAssociatesRow.holds Try.pinned (OpenSpec.ofChange Rows.quatAssociatesSpec) :=
  OpenClaim.holds_of_wide 6 Try.f6 rfl rfl rfl rfl rfl rfl rfl ⟨rfl, rfl, rfl, rfl, rfl⟩ rfl rfl rfl rfl rfl (by kernel_rfl) Try.func6 (by kernel_rfl)
    (of_decide_eq_true (by kernel_rfl)) (by unfold Func.isWrapper; first | (rw [if_pos (by decide +kernel)]; kernel_rfl) | (rw [if_neg (by decide +kernel)]; exact ⟨rfl, rfl⟩))
    (fun os started H enc _ => quatAssociates_lifted os started H enc)

theorem quatAssociates_holds : Rows.QuatAssociatesSaid := quatAssociates_over
#print axioms quatAssociates_holds

end Go.Proofs.Ytecoemdpfpdeoaa
