/- TorusSites: how many sites there are, and how sites and places belong together, is what the document says, for all sizes and numbers; a site is found again from its place.
Conditions: none. -/
import Derived.Test.YtdoepghffkpncaaKnown2
namespace Go.Proofs.Ytdoepghffkpncaa
set_option linter.unusedVariables false
set_option linter.unusedSimpArgs false
set_option maxRecDepth 1000000
open Go.ChangeShapes Go.WideShapes Go.ChangeAt Go.RowKit
open Tm

set_option maxHeartbeats 3200000 in
theorem torusSites_core (a b c x y z s t d n ne r er px py pz pe v r3 e3 : Int) (w : World)
    (c1 : ∀ W : World, Calls Try.prog 25 #[.agg #[.int .i64 a, .int .i64 b, .int .i64 c]] W fun e w' => e = .returned (.tuple #[.int .i64 n, .int .i64 ne]) ∧ Below W.heap.size W w')
    (c2 : ∀ W : World, Calls Try.prog 26 #[.agg #[.int .i64 a, .int .i64 b, .int .i64 c]] W fun e w' => e = .returned (.tuple #[.int .i64 n, .int .i64 ne]) ∧ Below W.heap.size W w')
    (c3 : ∀ W : World, Calls Try.prog 27 #[.agg #[.int .i64 a, .int .i64 b, .int .i64 c], .int .i64 x, .int .i64 y, .int .i64 z] W fun e w' => e = .returned (.tuple #[.int .i64 r, .int .i64 er]) ∧ Below W.heap.size W w')
    (c4 : ∀ W : World, Calls Try.prog 28 #[.agg #[.int .i64 a, .int .i64 b, .int .i64 c], .int .i64 x, .int .i64 y, .int .i64 z] W fun e w' => e = .returned (.tuple #[.int .i64 r, .int .i64 er]) ∧ Below W.heap.size W w')
    (c5 : ∀ W : World, Calls Try.prog 29 #[.agg #[.int .i64 a, .int .i64 b, .int .i64 c], .int .i64 s] W fun e w' => e = .returned (.tuple #[.agg #[.int .i64 px, .int .i64 py, .int .i64 pz], .int .i64 pe]) ∧ Below W.heap.size W w')
    (c6 : ∀ W : World, Calls Try.prog 30 #[.agg #[.int .i64 a, .int .i64 b, .int .i64 c], .int .i64 s] W fun e w' => e = .returned (.tuple #[.agg #[.int .i64 px, .int .i64 py, .int .i64 pz], .int .i64 pe]) ∧ Below W.heap.size W w')
    (v1 : ∀ W : World, Calls Try.prog 31 #[.agg #[.int .i64 a, .int .i64 b, .int .i64 c]] W fun e w' => e = .returned (.int .i64 v) ∧ Below W.heap.size W w')
    (v2 : ∀ W : World, Calls Try.prog 32 #[.agg #[.int .i64 a, .int .i64 b, .int .i64 c]] W fun e w' => e = .returned (.int .i64 v) ∧ Below W.heap.size W w')
    (c7 : ∀ W : World, Calls Try.prog 27 #[.agg #[.int .i64 a, .int .i64 b, .int .i64 c], .int .i64 px, .int .i64 py, .int .i64 pz] W fun e w' => e = .returned (.tuple #[.int .i64 r3, .int .i64 e3]) ∧ Below W.heap.size W w')
    (h : (pe = 0 ∧ e3 = 0 ∧ r3 = s) ∨ ((pe == 0) = false ∧ (pe != 0) = true)) :
    Calls Try.prog 4 #[.agg #[.int .i64 a, .int .i64 b, .int .i64 c], .agg #[.int .i64 x, .int .i64 y, .int .i64 z, .int .i64 s, .int .i64 t, .int .i64 d]] w fun e w' => e = .returned (.bool true) ∧ Below w.heap.size w w' := by
  have kn := known2_any
  have qa := eqA3
  have kc := @Tail.cell_re
  have kc1 : ∀ (W : World) (o : Obj) (d : Nat) (os : Array Obj) (a : Addr), a.block ≤ W.heap.size → (Sort.grow (redrawn (W.alloc o) d) os).cell? a = (W.alloc o).cell? a := fun W o d os a h => Tail.cell_re (W.alloc o) d os a (Nat.lt_of_le_of_lt h (by simp))
  rcases h with ⟨rfl, rfl, rfl⟩ | ⟨h1, h2⟩
  all_goals
    go_enter Try.func4, Try.ntmps4
    go_wp2_with (first | ((with_reducible refine (c1 _).mono ?_); clear c1; rintro e w1 ⟨rfl, hw1⟩; have hc1 := Tail.cells hw1; have s1 := hw1.size; (try simp at s1); (try have z1_0 : w.heap.size < w1.heap.size := (by omega)); (try have z1_1 : w.heap.size + 1 < w1.heap.size := (by omega)); clear s1) | ((with_reducible refine (c2 _).mono ?_); clear c2; rintro e w2 ⟨rfl, hw2⟩; have hc2 := Tail.cells hw2; have s2 := hw2.size; (try simp at s2); (try have z2_0 : w.heap.size < w2.heap.size := (by omega)); (try have z2_1 : w.heap.size + 1 < w2.heap.size := (by omega)); (try have z2_2 : w1.heap.size < w2.heap.size := (by omega)); clear s2) | ((with_reducible refine (c3 _).mono ?_); clear c3; rintro e w3 ⟨rfl, hw3⟩; have hc3 := Tail.cells hw3; have s3 := hw3.size; (try simp at s3); (try have z3_0 : w.heap.size < w3.heap.size := (by omega)); (try have z3_1 : w.heap.size + 1 < w3.heap.size := (by omega)); (try have z3_2 : w1.heap.size < w3.heap.size := (by omega)); (try have z3_3 : w2.heap.size < w3.heap.size := (by omega)); clear s3) | ((with_reducible refine (c4 _).mono ?_); clear c4; rintro e w4 ⟨rfl, hw4⟩; have hc4 := Tail.cells hw4; have s4 := hw4.size; (try simp at s4); (try have z4_0 : w.heap.size < w4.heap.size := (by omega)); (try have z4_1 : w.heap.size + 1 < w4.heap.size := (by omega)); (try have z4_2 : w1.heap.size < w4.heap.size := (by omega)); (try have z4_3 : w2.heap.size < w4.heap.size := (by omega)); (try have z4_4 : w3.heap.size < w4.heap.size := (by omega)); clear s4) | ((with_reducible refine (c5 _).mono ?_); clear c5; rintro e w5 ⟨rfl, hw5⟩; have hc5 := Tail.cells hw5; have s5 := hw5.size; (try simp at s5); (try have z5_0 : w.heap.size < w5.heap.size := (by omega)); (try have z5_1 : w.heap.size + 1 < w5.heap.size := (by omega)); (try have z5_2 : w1.heap.size < w5.heap.size := (by omega)); (try have z5_3 : w2.heap.size < w5.heap.size := (by omega)); (try have z5_4 : w3.heap.size < w5.heap.size := (by omega)); (try have z5_5 : w4.heap.size < w5.heap.size := (by omega)); clear s5) | ((with_reducible refine (c6 _).mono ?_); clear c6; rintro e w6 ⟨rfl, hw6⟩; have hc6 := Tail.cells hw6; have s6 := hw6.size; (try simp at s6); (try have z6_0 : w.heap.size < w6.heap.size := (by omega)); (try have z6_1 : w.heap.size + 1 < w6.heap.size := (by omega)); (try have z6_2 : w1.heap.size < w6.heap.size := (by omega)); (try have z6_3 : w2.heap.size < w6.heap.size := (by omega)); (try have z6_4 : w3.heap.size < w6.heap.size := (by omega)); (try have z6_5 : w4.heap.size < w6.heap.size := (by omega)); (try have z6_6 : w5.heap.size < w6.heap.size := (by omega)); clear s6))
    refine Tail.region_below (by kernel_rfl) (by kernel_rfl) ?_
    repeat (go_big_quiet_step (first | (with_reducible exact Calls.regrown_of (v1 _)) | (with_reducible exact Calls.regrown_of (v2 _))))
    refine wpQuiet_nil ?_
    intro w9 hw9
    have hc9 := Tail.cells hw9
    have s9 := hw9.size
    simp at s9
    have z9_0 : w.heap.size < w9.heap.size := by omega
    have z9_1 : w.heap.size + 1 < w9.heap.size := by omega
    have z9_5 : w5.heap.size < w9.heap.size := by omega
    go_wp2_with (first | ((with_reducible refine (c7 _).mono ?_); rintro e w10 ⟨rfl, hw10⟩; have hc10 := Tail.cells hw10; have s10 := hw10.size; have z10_0 : w.heap.size < w10.heap.size := (by omega); have z10_1 : w.heap.size + 1 < w10.heap.size := (by omega)) | ((with_reducible refine (kn _).mono ?_); rintro e w11 ⟨rfl, hw11⟩))
    go_ret
    exact ⟨rfl, by repeat (first | (with_reducible exact Below.refl _ _) | (with_reducible refine Below.setCell ?_ ?_ _) | (with_reducible refine Below.drew ?_) | (with_reducible refine Below.alloc ?_ ?_ _) | (with_reducible refine Below.trans ?_ (Below.mono hw11 ?_)) | (with_reducible refine Below.trans ?_ (Below.mono hw10 ?_)) | (with_reducible refine Below.trans ?_ (Below.mono hw9 ?_)) | (with_reducible refine Below.trans ?_ (Below.mono hw6 ?_)) | (with_reducible refine Below.trans ?_ (Below.mono hw5 ?_)) | (with_reducible refine Below.trans ?_ (Below.mono hw4 ?_)) | (with_reducible refine Below.trans ?_ (Below.mono hw3 ?_)) | (with_reducible refine Below.trans ?_ (Below.mono hw2 ?_)) | (with_reducible refine Below.trans ?_ (Below.mono hw1 ?_)) | (with_reducible exact hw11.size) | (with_reducible exact hw10.size) | (with_reducible exact hw9.size) | (with_reducible exact hw6.size) | (with_reducible exact hw5.size) | (with_reducible exact hw4.size) | (with_reducible exact hw3.size) | (with_reducible exact hw2.size) | (with_reducible exact hw1.size) | omega | (simp <;> omega) | (simp <;> (have s := hw11.size; omega)) | (simp <;> (have s := hw10.size; omega)) | (simp <;> (have s := hw9.size; omega)) | (simp <;> (have s := hw6.size; omega)) | (simp <;> (have s := hw5.size; omega)) | (simp <;> (have s := hw4.size; omega)) | (simp <;> (have s := hw3.size; omega)) | (simp <;> (have s := hw2.size; omega)) | (simp <;> (have s := hw1.size; omega)) | (have s0 := hw11.size; (try simp at s0); have s1 := hw10.size; (try simp at s1); have s2 := hw9.size; (try simp at s2); have s3 := hw6.size; (try simp at s3); have s4 := hw5.size; (try simp at s4); have s5 := hw4.size; (try simp at s5); have s6 := hw3.size; (try simp at s6); have s7 := hw2.size; (try simp at s7); have s8 := hw1.size; (try simp at s8); (try simp); omega))⟩

set_option maxHeartbeats 800000 in
theorem torusSites_walk (a b c x y z s t d : Int) (w : World) : Calls Try.prog 4 #[.agg #[.int .i64 a, .int .i64 b, .int .i64 c], .agg #[.int .i64 x, .int .i64 y, .int .i64 z, .int .i64 s, .int .i64 t, .int .i64 d]] w fun e w' => e = .returned (.bool true) ∧ Below w.heap.size w w' := by
  obtain ⟨n, ne, h1⟩ := sitesR_ex a b c
  obtain ⟨r, er, h2⟩ := siteR_ex a b c x y z
  obtain ⟨px, py, pz, pe, h3⟩ := placeR_ex a b c s
  obtain ⟨v, hv⟩ : ∃ v, szR a b c v := by
    by_cases h : Sz a b c
    · exact ⟨0, .inl ⟨h, rfl⟩⟩
    · exact ⟨1, .inr ⟨h, rfl⟩⟩
  obtain ⟨r3, e3, h4, h5⟩ : ∃ r3 e3, siteR a b c px py pz r3 e3 ∧ ((pe = 0 ∧ e3 = 0 ∧ r3 = s) ∨ ((pe == 0) = false ∧ (pe != 0) = true)) := by
    rcases h3 with ⟨h, rfl, rfl, rfl, rfl⟩ | ⟨h, hs, rfl, rfl, rfl, rfl⟩ | ⟨h, h0, h1, rfl, rfl, rfl, rfl⟩
    · exact ⟨_, _, .inl ⟨h, rfl, rfl⟩, .inr ⟨by decide, by decide⟩⟩
    · exact ⟨_, _, .inr ⟨h, rfl, rfl⟩, .inr ⟨by decide, by decide⟩⟩
    · exact ⟨_, _, .inr ⟨h, rfl, rfl⟩, .inl ⟨rfl, rfl, site_place h h0 h1⟩⟩
  exact torusSites_core a b c x y z s t d n ne r er px py pz pe v r3 e3 w (fun W => sites_any _ _ _ _ _ W h1) (fun W => ref_sites_any _ _ _ _ _ W h1) (fun W => site_any _ _ _ _ _ _ _ _ W h2) (fun W => ref_site_any _ _ _ _ _ _ _ _ W h2) (fun W => place_any _ _ _ _ _ _ _ _ W h3) (fun W => ref_place_any _ _ _ _ _ _ _ _ W h3) (fun W => sizes_any _ _ _ _ W hv) (fun W => refSizes_any _ _ _ _ W hv) (fun W => site_any _ _ _ _ _ _ _ _ W h4) h5

/-! ### The statement of the law TorusSites, out of its walk -/
set_option maxRecDepth 100000 in
theorem torusSites_lifted (os : Os) (started : os.Started) (H : Type) (enc : TypeId × Value → H) :
    ReturnsInHanded {} Try.checked os 4 .any (Rows.torusSitesSpec.pre6 enc Try.prog Try.f4 Rows.torusSitesRow.domain false) (Rows.torusSitesSpec.post enc Try.prog Try.f4 false true false false) := by
  refine returnsInHanded_of_change (C := Try.checked) own started (by kernel_rfl) Try.func4
    (ChangeSpec.witness6 (enc := enc) (C := Try.checked) false ⟨#[], #[.agg #[.int .i64 0, .int .i64 0, .int .i64 0], .agg #[.int .i64 0, .int .i64 0, .int .i64 0, .int .i64 0, .int .i64 0, .int .i64 0]], []⟩ 8 (by kernel_rfl) (by kernel_rfl) (by kernel_rfl) (by kernel_rfl)) ?_
  intro W base args ds gs before hval0 hW hcnd _
  have hval : ∀ (j : Nat) t v, Try.f4.params[j]? = some t → args[j]? = some v → Value.okWide Try.prog W .any base t v := hval0
  have hW' := hW
  obtain ⟨p, q, hA0, hV, rfl, hfz, hnd⟩ := hW
  have hA : DataW.TrodAll enc Try.prog W 0 (fun _ => true) true Try.f4.params.toList args.toList ds p := hA0
  rw [Try.params4] at hA hval
  obtain ⟨v0, vs0, d0, ds0, p0, q0, hargs, rfl, rfl, h0, r0⟩ := trodAll_cons hA
  obtain ⟨v1, vs1, d1, ds1, p1, q1, rfl, rfl, rfl, h1, r1⟩ := trodAll_cons r0
  obtain ⟨rfl, rfl, rfl⟩ := trodAll_nil r1
  obtain rfl : args = #[v0, v1] := by cases args; simp_all
  obtain ⟨rfl, rfl⟩ := trodVars_none hV
  have k0 := h0
  have lt0 : ∀ x ∈ p0, x.block < W.heap.size := by obtain ⟨m, hm⟩ := k0; exact DataW.trod_lt m _ _ _ hm
  obtain ⟨x0, y0, z0, rfl⟩ := open_arr3 (hval 0 22 v0 rfl rfl) h0
  have k1 := h1
  have lt1 : ∀ x ∈ p1, x.block < W.heap.size := by obtain ⟨m, hm⟩ := k1; exact DataW.trod_lt m _ _ _ hm
  obtain ⟨x1, y1, z1, s1, t1, d1, rfl⟩ := open_where (hval 1 37 v1 rfl rfl) h1
  clear hA0 hval0
  refine (torusSites_walk x0 y0 z0 x1 y1 z1 s1 t1 d1 W).mono fun e W' ⟨he, bel⟩ => ?_
  subst he
  exact ⟨_, rfl, _, _, _, [], _, [], hW', trodAll_mk1 (shut_bool Try.underlying4 _), (trodAll_cons_mk (Below.trod laidOut (by kernel_rfl) (of_decide_eq_true (by kernel_rfl)) k0 bel lt0) (trodAll_cons_mk (Below.trod laidOut (by kernel_rfl) (of_decide_eq_true (by kernel_rfl)) k1 bel lt1) trodAll_mk0)), rfl, bel.frame _, fun h => by cases h⟩

theorem torusSites_over : Rows.torusSitesRow.holds Try.pinned (OpenSpec.ofChange Rows.torusSitesSpec) :=
  OpenClaim.holds_of_wide 4 Try.f4 rfl rfl rfl rfl rfl rfl rfl ⟨rfl, rfl, rfl, rfl, rfl⟩ rfl rfl rfl rfl rfl (by kernel_rfl) Try.func4 (by kernel_rfl)
    (of_decide_eq_true (by kernel_rfl)) (by unfold Func.isWrapper; first | (rw [if_pos (by decide +kernel)]; kernel_rfl) | (rw [if_neg (by decide +kernel)]; exact ⟨rfl, rfl⟩))
    (fun os started H enc _ => torusSites_lifted os started H enc)

theorem torusSites_holds : Rows.TorusSitesSaid := torusSites_over
#print axioms torusSites_holds

end Go.Proofs.Ytdoepghffkpncaa
