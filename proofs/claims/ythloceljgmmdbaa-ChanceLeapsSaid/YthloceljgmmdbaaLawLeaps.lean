/- ChanceLeaps: the seed after many steps is what the document says, for all numbers, and leaps add up.
Conditions: none. -/
import Derived.Test.YthloceljgmmdbaaSane5
import Derived.Test.YthloceljgmmdbaaLeaps
import Derived.Test.YthloceljgmmdbaaOpen3
import Derived.Test.YthloceljgmmdbaaJFacts
namespace Go.Proofs.Ythloceljgmmdbaa
set_option linter.unusedVariables false
set_option linter.unusedSimpArgs false
set_option maxRecDepth 1000000
open Go.ChangeShapes Go.WideShapes Go.ChangeAt Go.RowKit
open Cm

set_option maxHeartbeats 1600000 in
theorem chanceLeaps_walk (s n m : Int) (w : World) : Calls Try.prog 4 #[.int .i64 s, .int .i64 n, .int .i64 m] w fun e w' => e = .returned (.bool true) ∧ Below w.heap.size w w' := by
  obtain ⟨a, e, h1⟩ := leapR_ex s n
  have c1 := fun W : World => leap_any s n a e W h1
  have c2 := fun W : World => refLeap_any s n a e W h1
  obtain ⟨c, g, h2⟩ := leapR_ex a m
  have c3 := fun W : World => leap_any a m c g W h2
  have kn := sane5_any
  rcases h1 with ⟨hs, hn, rfl, rfl⟩ | h1
  · rcases h2 with ⟨ha, hm, rfl, rfl⟩ | h2
    · by_cases hk : n ≤ 1099511627776 - m
      · have h3 : leapR s (n + m) (leap s (n + m).toNat) 0 := .inl ⟨hs, ⟨by omega, by omega⟩, rfl, rfl⟩
        have c4 := fun W : World => leap_any s (n + m) _ 0 W h3
        have e3 : leap s (n + m).toNat = leap (leap s n.toNat) m.toNat := by rw [leap_add]; congr 1; omega
        rw [e3] at c4
        obtain ⟨n1, n2⟩ := hn
        obtain ⟨m1, m2⟩ := hm
        clear h3 e3 ha hs
        generalize leap (leap s n.toNat) m.toNat = c at *
        generalize leap s n.toNat = a at *
        go_enter Try.func4, Try.ntmps4
        go_wp2_with (first | ((with_reducible refine (c1 _).mono ?_); rintro e w1 ⟨rfl, rfl⟩) | ((with_reducible refine (c2 _).mono ?_); rintro e w1 ⟨rfl, rfl⟩) | ((with_reducible refine (c3 _).mono ?_); rintro e w1 ⟨rfl, rfl⟩) | ((with_reducible refine (c4 _).mono ?_); rintro e w1 ⟨rfl, rfl⟩) | ((with_reducible refine (kn _).mono ?_); rintro e w5 ⟨rfl, hw5⟩))
        go_ret
        exact ⟨rfl, by repeat (first | (with_reducible exact Below.refl _ _) | (with_reducible refine Below.setCell ?_ ?_ _) | (with_reducible refine Below.drew ?_) | (with_reducible refine Below.alloc ?_ ?_ _) | (with_reducible refine Below.trans ?_ (Below.mono hw5 ?_)) | (with_reducible exact hw5.size) | omega | (simp <;> omega) | (simp <;> (have s := hw5.size; omega)) | (have s0 := hw5.size; (try simp at s0); (try simp); omega))⟩
      · obtain ⟨n1, n2⟩ := hn
        obtain ⟨m1, m2⟩ := hm
        clear ha hs
        generalize leap (leap s n.toNat) m.toNat = c at *
        generalize leap s n.toNat = a at *
        go_enter Try.func4, Try.ntmps4
        go_wp2_with (first | ((with_reducible refine (c1 _).mono ?_); rintro e w1 ⟨rfl, rfl⟩) | ((with_reducible refine (c2 _).mono ?_); rintro e w1 ⟨rfl, rfl⟩) | ((with_reducible refine (c3 _).mono ?_); rintro e w1 ⟨rfl, rfl⟩) | ((with_reducible refine (kn _).mono ?_); rintro e w5 ⟨rfl, hw5⟩))
        go_ret
        exact ⟨rfl, by repeat (first | (with_reducible exact Below.refl _ _) | (with_reducible refine Below.setCell ?_ ?_ _) | (with_reducible refine Below.drew ?_) | (with_reducible refine Below.alloc ?_ ?_ _) | (with_reducible refine Below.trans ?_ (Below.mono hw5 ?_)) | (with_reducible exact hw5.size) | omega | (simp <;> omega) | (simp <;> (have s := hw5.size; omega)) | (have s0 := hw5.size; (try simp at s0); (try simp); omega))⟩
    · have hg : c = 0 ∧ g = 1 := by rcases h2 with ⟨-, -, h, k⟩ | ⟨-, h, k⟩ <;> exact ⟨h, k⟩
      obtain ⟨rfl, rfl⟩ := hg
      clear h2 hn hs
      generalize leap s n.toNat = a at *
      go_enter Try.func4, Try.ntmps4
      go_wp2_with (first | ((with_reducible refine (c1 _).mono ?_); rintro e w1 ⟨rfl, rfl⟩) | ((with_reducible refine (c2 _).mono ?_); rintro e w1 ⟨rfl, rfl⟩) | ((with_reducible refine (c3 _).mono ?_); rintro e w1 ⟨rfl, rfl⟩) | ((with_reducible refine (kn _).mono ?_); rintro e w5 ⟨rfl, hw5⟩))
      go_ret
      exact ⟨rfl, by repeat (first | (with_reducible exact Below.refl _ _) | (with_reducible refine Below.setCell ?_ ?_ _) | (with_reducible refine Below.drew ?_) | (with_reducible refine Below.alloc ?_ ?_ _) | (with_reducible refine Below.trans ?_ (Below.mono hw5 ?_)) | (with_reducible exact hw5.size) | omega | (simp <;> omega) | (simp <;> (have s := hw5.size; omega)) | (have s0 := hw5.size; (try simp at s0); (try simp); omega))⟩
  · have hg : a = 0 ∧ e = 1 := by rcases h1 with ⟨-, -, h, k⟩ | ⟨-, h, k⟩ <;> exact ⟨h, k⟩
    obtain ⟨rfl, rfl⟩ := hg
    clear h1 h2
    go_enter Try.func4, Try.ntmps4
    go_wp2_with (first | ((with_reducible refine (c1 _).mono ?_); rintro e w1 ⟨rfl, rfl⟩) | ((with_reducible refine (c2 _).mono ?_); rintro e w1 ⟨rfl, rfl⟩) | ((with_reducible refine (c3 _).mono ?_); rintro e w1 ⟨rfl, rfl⟩) | ((with_reducible refine (kn _).mono ?_); rintro e w5 ⟨rfl, hw5⟩))
    go_ret
    exact ⟨rfl, by repeat (first | (with_reducible exact Below.refl _ _) | (with_reducible refine Below.setCell ?_ ?_ _) | (with_reducible refine Below.drew ?_) | (with_reducible refine Below.alloc ?_ ?_ _) | (with_reducible refine Below.trans ?_ (Below.mono hw5 ?_)) | (with_reducible exact hw5.size) | omega | (simp <;> omega) | (simp <;> (have s := hw5.size; omega)) | (have s0 := hw5.size; (try simp at s0); (try simp); omega))⟩

/-! ### The statement of the law ChanceLeaps, out of its walk -/
set_option maxRecDepth 100000 in
theorem chanceLeaps_lifted (os : Os) (started : os.Started) (H : Type) (enc : TypeId × Value → H) :
    ReturnsInHanded {} Try.checked os 4 .any (Rows.chanceLeapsSpec.pre6 enc Try.prog Try.f4 Rows.chanceLeapsRow.domain false) (Rows.chanceLeapsSpec.post enc Try.prog Try.f4 false true false false) := by
  refine returnsInHanded_of_change (C := Try.checked) own started (by kernel_rfl) Try.func4
    (ChangeSpec.witness6 (enc := enc) (C := Try.checked) false ⟨#[], #[.int .i64 0, .int .i64 0, .int .i64 0], []⟩ 8 (by kernel_rfl) (by kernel_rfl) (by kernel_rfl) (by kernel_rfl)) ?_
  intro W base args ds gs before hval0 hW hcnd _
  have hval : ∀ (j : Nat) t v, Try.f4.params[j]? = some t → args[j]? = some v → Value.okWide Try.prog W .any base t v := hval0
  have hW' := hW
  obtain ⟨p, q, hA0, hV, rfl, hfz, hnd⟩ := hW
  have hA : DataW.TrodAll enc Try.prog W 0 (fun _ => true) true Try.f4.params.toList args.toList ds p := hA0
  rw [Try.params4] at hA hval
  obtain ⟨v0, vs0, d0, ds0, p0, q0, hargs, rfl, rfl, h0, r0⟩ := trodAll_cons hA
  obtain ⟨v1, vs1, d1, ds1, p1, q1, rfl, rfl, rfl, h1, r1⟩ := trodAll_cons r0
  obtain ⟨v2, vs2, d2, ds2, p2, q2, rfl, rfl, rfl, h2, r2⟩ := trodAll_cons r1
  obtain ⟨rfl, rfl, rfl⟩ := trodAll_nil r2
  obtain rfl : args = #[v0, v1, v2] := by cases args; simp_all
  obtain ⟨rfl, rfl⟩ := trodVars_none hV
  have k0 := h0
  have lt0 : ∀ x ∈ p0, x.block < W.heap.size := by obtain ⟨m, hm⟩ := k0; exact DataW.trod_lt m _ _ _ hm
  obtain ⟨x0, e0, -, -, -⟩ := open_int Try.underlying3 (hval 0 3 v0 rfl rfl) h0
  subst e0
  have k1 := h1
  have lt1 : ∀ x ∈ p1, x.block < W.heap.size := by obtain ⟨m, hm⟩ := k1; exact DataW.trod_lt m _ _ _ hm
  obtain ⟨x1, e1, -, -, -⟩ := open_int Try.underlying3 (hval 1 3 v1 rfl rfl) h1
  subst e1
  have k2 := h2
  have lt2 : ∀ x ∈ p2, x.block < W.heap.size := by obtain ⟨m, hm⟩ := k2; exact DataW.trod_lt m _ _ _ hm
  obtain ⟨x2, e2, -, -, -⟩ := open_int Try.underlying3 (hval 2 3 v2 rfl rfl) h2
  subst e2
  clear hA0 hval0
  refine (chanceLeaps_walk x0 x1 x2 W).mono fun e W' ⟨he, bel⟩ => ?_
  subst he
  exact ⟨_, rfl, _, _, _, [], _, [], hW', trodAll_mk1 (shut_bool Try.underlying4 _), (trodAll_cons_mk (Below.trod laidOut (by kernel_rfl) (of_decide_eq_true (by kernel_rfl)) k0 bel lt0) (trodAll_cons_mk (Below.trod laidOut (by kernel_rfl) (of_decide_eq_true (by kernel_rfl)) k1 bel lt1) (trodAll_cons_mk (Below.trod laidOut (by kernel_rfl) (of_decide_eq_true (by kernel_rfl)) k2 bel lt2) trodAll_mk0))), rfl, bel.frame _, fun h => by cases h⟩

theorem chanceLeaps_jf9 : (Rows.chanceLeapsRow.inPlace == Try.prog.inPlace 4) = true := by kernel_rfl
theorem chanceLeaps_jf10 : (Rows.chanceLeapsRow.unfollowed == Try.prog.unfollowed 4) = true := by kernel_rfl
theorem chanceLeaps_jf11 : (Rows.chanceLeapsRow.recurses == Try.prog.recurses 4) = true := by kernel_rfl
theorem chanceLeaps_jf12 : (Rows.chanceLeapsRow.named == Try.prog.varsNamed 4) = true := by kernel_rfl
theorem chanceLeaps_facts : joinedFacts Try.prog 4 Try.f4 Rows.chanceLeapsSpec Rows.chanceLeapsRow = true := by
  unfold joinedFacts
  exact (band (band (band (band (band (band (band (band (band (band (band (band (band (band (band (band (band (band (band (band (band (band (band (band (band (band (band (band (band (band (band (by kernel_rfl) jf1) jf2) (by kernel_rfl)) (by kernel_rfl)) (by kernel_rfl)) jf6) (by kernel_rfl)) jf8) chanceLeaps_jf9) chanceLeaps_jf10) chanceLeaps_jf11) chanceLeaps_jf12) (by kernel_rfl)) (by kernel_rfl)) (by kernel_rfl)) (by kernel_rfl)) (by kernel_rfl)) (by kernel_rfl)) (by kernel_rfl)) (by kernel_rfl)) (by kernel_rfl)) (by kernel_rfl)) (by kernel_rfl)) jf24) jf25) jf26) jf27) (by kernel_rfl)) (by kernel_rfl)) (by kernel_rfl)) (by kernel_rfl))

theorem chanceLeaps_over : Rows.chanceLeapsRow.holds Try.pinned (OpenSpec.ofChange Rows.chanceLeapsSpec) :=
  OpenClaim.holds_of_wide 4 Try.f4 rfl rfl rfl rfl rfl rfl rfl ⟨rfl, rfl, rfl, rfl, rfl⟩ rfl rfl rfl rfl rfl (by kernel_rfl) Try.func4 chanceLeaps_facts
    (of_decide_eq_true (by kernel_rfl)) (by unfold Func.isWrapper; first | (rw [if_pos (by decide +kernel)]; kernel_rfl) | (rw [if_neg (by decide +kernel)]; exact ⟨rfl, rfl⟩))
    (fun os started H enc _ => chanceLeaps_lifted os started H enc)

theorem chanceLeaps_holds : Rows.ChanceLeapsSaid := chanceLeaps_over
#print axioms chanceLeaps_holds

end Go.Proofs.Ythloceljgmmdbaa
