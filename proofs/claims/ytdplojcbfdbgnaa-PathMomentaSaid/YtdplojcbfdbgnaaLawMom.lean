/- PathMomenta: the momenta that are drawn are what the document says, for all sizes and seeds.
Conditions: none. -/
import Derived.Test.YtdplojcbfdbgnaaSane6
import Derived.Test.YtdplojcbfdbgnaaMomC
import Derived.Test.YtdplojcbfdbgnaaOpen3
import Derived.Test.YtdplojcbfdbgnaaJFacts
namespace Go.Proofs.Ytdplojcbfdbgnaa
set_option linter.unusedVariables false
set_option linter.unusedSimpArgs false
set_option maxRecDepth 1000000
open Go.ChangeShapes Go.WideShapes Go.ChangeAt Go.RowKit
open Um Tm Cm Km

set_option maxHeartbeats 1600000 in
theorem pathMomenta_ok (a b c s : Int) (w : World) (hz : Sz a b c) (hs : IsSeed s) : Calls Try.prog 9 #[.agg #[.int .i64 a, .int .i64 b, .int .i64 c], .int .i64 s] w fun e w' => e = .returned (.bool true) ∧ Below w.heap.size w w' := by
  have kn := known6_any
  obtain ⟨n, hn, hn0, hn48⟩ := size_ex hz
  have c1 := fun W : World => momenta_ok a b c s n W hz hn hs
  have c2 := fun W : World => refMomenta_ok a b c s n W hz hn hs
  have l1 := moms_len s (n * 3)
  generalize adm s (n * 3) = t at *
  generalize moms s (n * 3) = L at *
  have d3 : ∀ (g1 k1 g2 k2 : Nat) (W : World), LiesI W g1 0 L → LiesI W g2 0 L → Calls Try.prog 18 #[.slice (some ⟨g1, 0, none⟩) n k1, .slice (some ⟨g2, 0, none⟩) n k2] W fun e w' => e = .returned (.bool true) ∧ Below W.heap.size W w' := fun g1 k1 g2 k2 W h1 h2 => by
    have := sameK_any (some ⟨g1, 0, none⟩) (some ⟨g2, 0, none⟩) k1 k2 n n L L W (.inr ⟨g1, 0, rfl, h1⟩) (.inr ⟨g2, 0, rfl, h2⟩) l1 l1 (by omega)
    rwa [decide_eq_true rfl] at this
  clear hz hs hn l1
  go_enter Try.func9, Try.ntmps9
  go_wp2_with (first | ((with_reducible refine (c1 _).mono ?_); clear c1; rintro e w1 ⟨⟨g1, k1, rfl, hl1, hg1⟩, hw1⟩; have hc1 := Tail.cells hw1; have s1 := hw1.size; (try simp at s1); have z1_0 : w.heap.size < w1.heap.size := (by omega); have HL1 := Lib.hid hl1; clear hl1) | ((with_reducible refine (c2 _).mono ?_); clear c2; rintro e w2 ⟨⟨g2, k2, rfl, hl2, hg2⟩, hw2⟩; have hc2 := Tail.cells hw2; have HA := Lib.hid (HL1.out.later hw2); have HB := Lib.hid hl2; clear hl2) | ((with_reducible refine (d3 _ _ _ _ _ HA.out HB.out).mono ?_); clear d3; rintro e w3 ⟨rfl, hw3⟩) | ((with_reducible refine (kn _).mono ?_); rintro e w4 ⟨rfl, hw4⟩))
  go_ret
  exact ⟨rfl, by repeat (first | (with_reducible exact Below.refl _ _) | (with_reducible refine Below.setCell ?_ ?_ _) | (with_reducible refine Below.drew ?_) | (with_reducible refine Below.alloc ?_ ?_ _) | (with_reducible refine Below.trans ?_ (Below.mono hw4 ?_)) | (with_reducible refine Below.trans ?_ (Below.mono hw3 ?_)) | (with_reducible refine Below.trans ?_ (Below.mono hw2 ?_)) | (with_reducible refine Below.trans ?_ (Below.mono hw1 ?_)) | (with_reducible exact hw4.size) | (with_reducible exact hw3.size) | (with_reducible exact hw2.size) | (with_reducible exact hw1.size) | omega | (simp <;> omega) | (simp <;> (have s := hw4.size; omega)) | (simp <;> (have s := hw3.size; omega)) | (simp <;> (have s := hw2.size; omega)) | (simp <;> (have s := hw1.size; omega)) | (have s0 := hw4.size; (try simp at s0); have s1 := hw3.size; (try simp at s1); have s2 := hw2.size; (try simp at s2); have s3 := hw1.size; (try simp at s3); (try simp); omega))⟩
set_option maxHeartbeats 1600000 in
theorem pathMomenta_err (a b c s : Int) (w : World) (h : ¬ Sz a b c ∨ (Sz a b c ∧ ¬ IsSeed s)) : Calls Try.prog 9 #[.agg #[.int .i64 a, .int .i64 b, .int .i64 c], .int .i64 s] w fun e w' => e = .returned (.bool true) ∧ Below w.heap.size w w' := by
  have kn := known6_any
  have c1 := fun W : World => momenta_bad a b c s W h
  have c2 := fun W : World => refMomenta_bad a b c s W h
  have d3 := fun W : World => sameK_nil none none 0 0 W
  clear h
  go_enter Try.func9, Try.ntmps9
  go_wp2_with (first | ((with_reducible refine (c1 _).mono ?_); clear c1; rintro e w1 ⟨rfl, hw1⟩; have hc1 := Tail.cells hw1; have s1 := hw1.size; (try simp at s1); (try have z1_0 : w.heap.size < w1.heap.size := (by omega)); clear s1) | ((with_reducible refine (c2 _).mono ?_); clear c2; rintro e w2 ⟨rfl, hw2⟩; have hc2 := Tail.cells hw2; have s2 := hw2.size; (try simp at s2); (try have z2_0 : w.heap.size < w2.heap.size := (by omega)); (try have z2_1 : w1.heap.size < w2.heap.size := (by omega)); clear s2) | ((with_reducible refine (d3 _).mono ?_); clear d3; rintro e w3 ⟨rfl, hw3⟩; have hc3 := Tail.cells hw3; have s3 := hw3.size; (try simp at s3); (try have z3_0 : w.heap.size < w3.heap.size := (by omega)); (try have z3_1 : w1.heap.size < w3.heap.size := (by omega)); (try have z3_2 : w2.heap.size < w3.heap.size := (by omega)); clear s3) | ((with_reducible refine (kn _).mono ?_); clear kn; rintro e w4 ⟨rfl, hw4⟩; have hc4 := Tail.cells hw4; have s4 := hw4.size; (try simp at s4); (try have z4_0 : w.heap.size < w4.heap.size := (by omega)); (try have z4_1 : w1.heap.size < w4.heap.size := (by omega)); (try have z4_2 : w2.heap.size < w4.heap.size := (by omega)); (try have z4_3 : w3.heap.size < w4.heap.size := (by omega)); clear s4))
  go_ret
  exact ⟨rfl, by repeat (first | (with_reducible exact Below.refl _ _) | (with_reducible refine Below.setCell ?_ ?_ _) | (with_reducible refine Below.drew ?_) | (with_reducible refine Below.alloc ?_ ?_ _) | (with_reducible refine Below.trans ?_ (Below.mono hw4 ?_)) | (with_reducible refine Below.trans ?_ (Below.mono hw3 ?_)) | (with_reducible refine Below.trans ?_ (Below.mono hw2 ?_)) | (with_reducible refine Below.trans ?_ (Below.mono hw1 ?_)) | (with_reducible exact hw4.size) | (with_reducible exact hw3.size) | (with_reducible exact hw2.size) | (with_reducible exact hw1.size) | omega | (simp <;> omega) | (simp <;> (have s := hw4.size; omega)) | (simp <;> (have s := hw3.size; omega)) | (simp <;> (have s := hw2.size; omega)) | (simp <;> (have s := hw1.size; omega)) | (have s0 := hw4.size; (try simp at s0); have s1 := hw3.size; (try simp at s1); have s2 := hw2.size; (try simp at s2); have s3 := hw1.size; (try simp at s3); (try simp); omega))⟩
theorem pathMomenta_walk (a b c s : Int) (w : World) : Calls Try.prog 9 #[.agg #[.int .i64 a, .int .i64 b, .int .i64 c], .int .i64 s] w fun e w' => e = .returned (.bool true) ∧ Below w.heap.size w w' := by
  by_cases hz : Sz a b c
  · by_cases hs : IsSeed s
    · exact pathMomenta_ok a b c s w hz hs
    · exact pathMomenta_err a b c s w (.inr ⟨hz, hs⟩)
  · exact pathMomenta_err a b c s w (.inl hz)

/-! ### The statement of the law PathMomenta, out of its walk -/
set_option maxRecDepth 100000 in
theorem pathMomenta_lifted (os : Os) (started : os.Started) (H : Type) (enc : TypeId × Value → H) :
    ReturnsInHanded {} Try.checked os 9 .any (Rows.pathMomentaSpec.pre6 enc Try.prog Try.f9 Rows.pathMomentaRow.domain false) (Rows.pathMomentaSpec.post enc Try.prog Try.f9 false true false false) := by
  refine returnsInHanded_of_change (C := Try.checked) own started (by kernel_rfl) Try.func9
    (ChangeSpec.witness6 (enc := enc) (C := Try.checked) false ⟨#[], #[.agg #[.int .i64 0, .int .i64 0, .int .i64 0], .int .i64 0], []⟩ 8 (by kernel_rfl) (by kernel_rfl) (by kernel_rfl) (by kernel_rfl)) ?_
  intro W base args ds gs before hval0 hW hcnd _
  have hval : ∀ (j : Nat) t v, Try.f9.params[j]? = some t → args[j]? = some v → Value.okWide Try.prog W .any base t v := hval0
  have hW' := hW
  obtain ⟨p, q, hA0, hV, rfl, hfz, hnd⟩ := hW
  have hA : DataW.TrodAll enc Try.prog W 0 (fun _ => true) true Try.f9.params.toList args.toList ds p := hA0
  rw [Try.params9] at hA hval
  obtain ⟨v0, vs0, d0, ds0, p0, q0, hargs, rfl, rfl, h0, r0⟩ := trodAll_cons hA
  obtain ⟨v1, vs1, d1, ds1, p1, q1, rfl, rfl, rfl, h1, r1⟩ := trodAll_cons r0
  obtain ⟨rfl, rfl, rfl⟩ := trodAll_nil r1
  obtain rfl : args = #[v0, v1] := by cases args; simp_all
  obtain ⟨rfl, rfl⟩ := trodVars_none hV
  have k0 := h0
  have lt0 : ∀ x ∈ p0, x.block < W.heap.size := by obtain ⟨m, hm⟩ := k0; exact DataW.trod_lt m _ _ _ hm
  obtain ⟨x0, y0, z0, rfl⟩ := open_arr3 (hval 0 22 v0 rfl rfl) h0
  have k1 := h1
  have lt1 : ∀ x ∈ p1, x.block < W.heap.size := by obtain ⟨m, hm⟩ := k1; exact DataW.trod_lt m _ _ _ hm
  obtain ⟨x1, e1, -, -, -⟩ := open_int Try.underlying3 (hval 1 3 v1 rfl rfl) h1
  subst e1
  clear hA0 hval0
  refine (pathMomenta_walk x0 y0 z0 x1 W).mono fun e W' ⟨he, bel⟩ => ?_
  subst he
  exact ⟨_, rfl, _, _, _, [], _, [], hW', trodAll_mk1 (shut_bool Try.underlying4 _), (trodAll_cons_mk (Below.trod laidOut (by kernel_rfl) (of_decide_eq_true (by kernel_rfl)) k0 bel lt0) (trodAll_cons_mk (Below.trod laidOut (by kernel_rfl) (of_decide_eq_true (by kernel_rfl)) k1 bel lt1) trodAll_mk0)), rfl, bel.frame _, fun h => by cases h⟩

theorem pathMomenta_jf9 : (Rows.pathMomentaRow.inPlace == Try.prog.inPlace 9) = true := by kernel_rfl
theorem pathMomenta_jf10 : (Rows.pathMomentaRow.unfollowed == Try.prog.unfollowed 9) = true := by kernel_rfl
theorem pathMomenta_jf11 : (Rows.pathMomentaRow.recurses == Try.prog.recurses 9) = true := by kernel_rfl
theorem pathMomenta_jf12 : (Rows.pathMomentaRow.named == Try.prog.varsNamed 9) = true := by kernel_rfl
theorem pathMomenta_facts : joinedFacts Try.prog 9 Try.f9 Rows.pathMomentaSpec Rows.pathMomentaRow = true := by
  unfold joinedFacts
  exact (band (band (band (band (band (band (band (band (band (band (band (band (band (band (band (band (band (band (band (band (band (band (band (band (band (band (band (band (band (band (band (by kernel_rfl) jf1) jf2) (by kernel_rfl)) (by kernel_rfl)) (by kernel_rfl)) jf6) (by kernel_rfl)) jf8) pathMomenta_jf9) pathMomenta_jf10) pathMomenta_jf11) pathMomenta_jf12) (by kernel_rfl)) (by kernel_rfl)) (by kernel_rfl)) (by kernel_rfl)) (by kernel_rfl)) (by kernel_rfl)) (by kernel_rfl)) (by kernel_rfl)) (by kernel_rfl)) (by kernel_rfl)) (by kernel_rfl)) jf24) jf25) jf26) jf27) (by kernel_rfl)) (by kernel_rfl)) (by kernel_rfl)) (by kernel_rfl))

theorem pathMomenta_over : Rows.pathMomentaRow.holds Try.pinned (OpenSpec.ofChange Rows.pathMomentaSpec) :=
  OpenClaim.holds_of_wide 9 Try.f9 rfl rfl rfl rfl rfl rfl rfl ⟨rfl, rfl, rfl, rfl, rfl⟩ rfl rfl rfl rfl rfl (by kernel_rfl) Try.func9 pathMomenta_facts
    (of_decide_eq_true (by kernel_rfl)) (by unfold Func.isWrapper; first | (rw [if_pos (by decide +kernel)]; kernel_rfl) | (rw [if_neg (by decide +kernel)]; exact ⟨rfl, rfl⟩))
    (fun os started H enc _ => pathMomenta_lifted os started H enc)

theorem pathMomenta_holds : Rows.PathMomentaSaid := pathMomenta_over
#print axioms pathMomenta_holds

end Go.Proofs.Ytdplojcbfdbgnaa
