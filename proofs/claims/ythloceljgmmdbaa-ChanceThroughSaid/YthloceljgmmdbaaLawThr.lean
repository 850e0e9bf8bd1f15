/- ChanceThrough: the plaquettes of a link are those that the document says, for all sizes and numbers.
Conditions: none. -/
import Derived.Test.YthloceljgmmdbaaSane5
import Derived.Test.YthloceljgmmdbaaThrR
import Derived.Test.YthloceljgmmdbaaOpen3
import Derived.Test.YthloceljgmmdbaaJFacts
namespace Go.Proofs.Ythloceljgmmdbaa
set_option linter.unusedVariables false
set_option linter.unusedSimpArgs false
set_option maxRecDepth 1000000
open Go.ChangeShapes Go.WideShapes Go.ChangeAt Go.RowKit
open Cm Tm

set_option maxHeartbeats 1600000 in
theorem chanceThrough_walk (a b c l : Int) (w : World) : Calls Try.prog 6 #[.agg #[.int .i64 a, .int .i64 b, .int .i64 c], .int .i64 l] w fun e w' => e = .returned (.bool true) ∧ Below w.heap.size w w' := by
  have kn := sane5_any
  obtain ⟨r, hr⟩ := lkR_ex a b c l
  by_cases h0 : r = 0
  · subst h0
    obtain ⟨hz, k0, k1⟩ : Sz a b c ∧ 0 ≤ l ∧ l < 3 * (a * b * c) := by
      rcases hr with ⟨-, h⟩ | ⟨-, -, h⟩ | ⟨h, k0, k1, -⟩
      · exact absurd h (by omega)
      · exact absurd h (by omega)
      · exact ⟨h, k0, k1⟩
    have c1 := fun W : World => through_ok a b c l W hz k0 k1
    have c2 := fun W : World => refThrough_ok a b c l W hz k0 k1
    have hlen : (thr a b c l).length ≤ 1000000 := by
      have h1 : (thr a b c l).length ≤ (3 * (a * b * c)).toNat := by
        unfold thr
        exact Nat.le_trans (List.length_filter_le _ _) (by simp)
      have := hz.p
      omega
    have c3 := fun (g k : Nat) ao (k' : Nat) (W : World) (h1 : LiesI W g 0 (thr a b c l)) (h2 : LiesOI W ao (thr a b c l)) => sameInts4_any (some ⟨g, 0, none⟩) ao k k' (thr a b c l) (thr a b c l) W (.inr ⟨g, 0, rfl, h1⟩) h2 hlen
    have et : decide (thr a b c l = thr a b c l) = true := decide_eq_true rfl
    rw [et] at c3
    clear hr hz k0 k1 hlen et
    generalize thr a b c l = t at *
    go_enter Try.func6, Try.ntmps6
    go_wp2_with (first | ((with_reducible refine (c1 _).mono ?_); rintro e w1 ⟨g, k, rfl, hl1, hg, hw1⟩; have HL1 := Lib.hid hl1; have hc1 := Tail.cells hw1; clear hl1 c1; have zw10 := Nat.lt_of_lt_of_le (n := w.heap.size) (by simp <;> omega) hw1.size) | ((with_reducible refine (c2 _).mono ?_); rintro e w2 ⟨ao, k', rfl, hl2, hw2⟩; have HL2 := Lib.hid hl2; clear hl2 c2; have HL1' := Lib.hid (HL1.out.later hw2)) | ((with_reducible refine (c3 _ _ _ _ _ HL1'.out HL2.out).mono ?_); rintro e w3 ⟨rfl, hw3⟩) | ((with_reducible refine (kn _).mono ?_); rintro e w5 ⟨rfl, hw5⟩))
    go_ret
    exact ⟨rfl, by repeat (first | (with_reducible exact Below.refl _ _) | (with_reducible refine Below.setCell ?_ ?_ _) | (with_reducible refine Below.drew ?_) | (with_reducible refine Below.alloc ?_ ?_ _) | (with_reducible refine Below.trans ?_ (Below.mono hw5 ?_)) | (with_reducible refine Below.trans ?_ (Below.mono hw3 ?_)) | (with_reducible refine Below.trans ?_ (Below.mono hw2 ?_)) | (with_reducible refine Below.trans ?_ (Below.mono hw1 ?_)) | (with_reducible exact hw5.size) | (with_reducible exact hw3.size) | (with_reducible exact hw2.size) | (with_reducible exact hw1.size) | omega | (simp <;> omega) | (simp <;> (have s := hw5.size; omega)) | (simp <;> (have s := hw3.size; omega)) | (simp <;> (have s := hw2.size; omega)) | (simp <;> (have s := hw1.size; omega)) | (have s0 := hw5.size; (try simp at s0); have s1 := hw3.size; (try simp at s1); have s2 := hw2.size; (try simp at s2); have s3 := hw1.size; (try simp at s3); (try simp); omega))⟩
  · have c1 := fun W : World => through_bad a b c l r W hr h0
    have c2 := fun W : World => refThrough_bad a b c l r W hr h0
    have c3 := fun W : World => sameInts4_nil none none 0 0 W
    clear hr h0
    go_enter Try.func6, Try.ntmps6
    go_wp2_with (first | ((with_reducible refine (c1 _).mono ?_); rintro e w1 ⟨rfl, hw1⟩; have hc1 := Tail.cells hw1; clear c1; have zw10 := Nat.lt_of_lt_of_le (n := w.heap.size) (by simp <;> omega) hw1.size) | ((with_reducible refine (c2 _).mono ?_); rintro e w2 ⟨rfl, hw2⟩; clear c2) | ((with_reducible refine (c3 _).mono ?_); rintro e w3 ⟨rfl, hw3⟩) | ((with_reducible refine (kn _).mono ?_); rintro e w5 ⟨rfl, hw5⟩))
    go_ret
    exact ⟨rfl, by repeat (first | (with_reducible exact Below.refl _ _) | (with_reducible refine Below.setCell ?_ ?_ _) | (with_reducible refine Below.drew ?_) | (with_reducible refine Below.alloc ?_ ?_ _) | (with_reducible refine Below.trans ?_ (Below.mono hw5 ?_)) | (with_reducible refine Below.trans ?_ (Below.mono hw3 ?_)) | (with_reducible refine Below.trans ?_ (Below.mono hw2 ?_)) | (with_reducible refine Below.trans ?_ (Below.mono hw1 ?_)) | (with_reducible exact hw5.size) | (with_reducible exact hw3.size) | (with_reducible exact hw2.size) | (with_reducible exact hw1.size) | omega | (simp <;> omega) | (simp <;> (have s := hw5.size; omega)) | (simp <;> (have s := hw3.size; omega)) | (simp <;> (have s := hw2.size; omega)) | (simp <;> (have s := hw1.size; omega)) | (have s0 := hw5.size; (try simp at s0); have s1 := hw3.size; (try simp at s1); have s2 := hw2.size; (try simp at s2); have s3 := hw1.size; (try simp at s3); (try simp); omega))⟩

/-! ### The statement of the law ChanceThrough, out of its walk -/
set_option maxRecDepth 100000 in
theorem chanceThrough_lifted (os : Os) (started : os.Started) (H : Type) (enc : TypeId × Value → H) :
    ReturnsInHanded {} Try.checked os 6 .any (Rows.chanceThroughSpec.pre6 enc Try.prog Try.f6 Rows.chanceThroughRow.domain false) (Rows.chanceThroughSpec.post enc Try.prog Try.f6 false true false false) := by
  refine returnsInHanded_of_change (C := Try.checked) own started (by kernel_rfl) Try.func6
    (ChangeSpec.witness6 (enc := enc) (C := Try.checked) false ⟨#[], #[.agg #[.int .i64 0, .int .i64 0, .int .i64 0], .int .i64 0], []⟩ 8 (by kernel_rfl) (by kernel_rfl) (by kernel_rfl) (by kernel_rfl)) ?_
  intro W base args ds gs before hval0 hW hcnd _
  have hval : ∀ (j : Nat) t v, Try.f6.params[j]? = some t → args[j]? = some v → Value.okWide Try.prog W .any base t v := hval0
  have hW' := hW
  obtain ⟨p, q, hA0, hV, rfl, hfz, hnd⟩ := hW
  have hA : DataW.TrodAll enc Try.prog W 0 (fun _ => true) true Try.f6.params.toList args.toList ds p := hA0
  rw [Try.params6] at hA hval
  obtain ⟨v0, vs0, d0, ds0, p0, q0, hargs, rfl, rfl, h0, r0⟩ := trodAll_cons hA
  obtain ⟨v1, vs1, d1, ds1, p1, q1, rfl, rfl, rfl, h1, r1⟩ := trodAll_cons r0
  obtain ⟨rfl, rfl, rfl⟩ := trodAll_nil r1
  obtain rfl : args = #[v0, v1] := by cases args; simp_all
  obtain ⟨rfl, rfl⟩ := trodVars_none hV
  have k0 := h0
  have lt0 : ∀ x ∈ p0, x.block < W.heap.size := by obtain ⟨m, hm⟩ := k0; exact DataW.trod_lt m _ _ _ hm
  obtain ⟨x0, y0, z0, rfl⟩ := open_arr3 (hval 0 31 v0 rfl rfl) h0
  have k1 := h1
  have lt1 : ∀ x ∈ p1, x.block < W.heap.size := by obtain ⟨m, hm⟩ := k1; exact DataW.trod_lt m _ _ _ hm
  obtain ⟨x1, e1, -, -, -⟩ := open_int Try.underlying3 (hval 1 3 v1 rfl rfl) h1
  subst e1
  clear hA0 hval0
  refine (chanceThrough_walk x0 y0 z0 x1 W).mono fun e W' ⟨he, bel⟩ => ?_
  subst he
  exact ⟨_, rfl, _, _, _, [], _, [], hW', trodAll_mk1 (shut_bool Try.underlying4 _), (trodAll_cons_mk (Below.trod laidOut (by kernel_rfl) (of_decide_eq_true (by kernel_rfl)) k0 bel lt0) (trodAll_cons_mk (Below.trod laidOut (by kernel_rfl) (of_decide_eq_true (by kernel_rfl)) k1 bel lt1) trodAll_mk0)), rfl, bel.frame _, fun h => by cases h⟩

theorem chanceThrough_jf9 : (Rows.chanceThroughRow.inPlace == Try.prog.inPlace 6) = true := by kernel_rfl
theorem chanceThrough_jf10 : (Rows.chanceThroughRow.unfollowed == Try.prog.unfollowed 6) = true := by kernel_rfl
theorem chanceThrough_jf11 : (Rows.chanceThroughRow.recurses == Try.prog.recurses 6) = true := by kernel_rfl
theorem chanceThrough_jf12 : (Rows.chanceThroughRow.named == Try.prog.varsNamed 6) = true := by kernel_rfl
theorem chanceThrough_facts : joinedFacts Try.prog 6 Try.f6 Rows.chanceThroughSpec Rows.chanceThroughRow = true := by
  unfold joinedFacts
  exact (band (band (band (band (band (band (band (band (band (band (band (band (band (band (band (band (band (band (band (band (band (band (band (band (band (band (band (band (band (band (band (by kernel_rfl) jf1) jf2) (by kernel_rfl)) (by kernel_rfl)) (by kernel_rfl)) jf6) (by kernel_rfl)) jf8) chanceThrough_jf9) chanceThrough_jf10) chanceThrough_jf11) chanceThrough_jf12) (by kernel_rfl)) (by kernel_rfl)) (by kernel_rfl)) (by kernel_rfl)) (by kernel_rfl)) (by kernel_rfl)) (by kernel_rfl)) (by kernel_rfl)) (by kernel_rfl)) (by kernel_rfl)) (by kernel_rfl)) jf24) jf25) jf26) jf27) (by kernel_rfl)) (by kernel_rfl)) (by kernel_rfl)) (by kernel_rfl))

theorem chanceThrough_over : Rows.chanceThroughRow.holds Try.pinned (OpenSpec.ofChange Rows.chanceThroughSpec) :=
  OpenClaim.holds_of_wide 6 Try.f6 rfl rfl rfl rfl rfl rfl rfl ⟨rfl, rfl, rfl, rfl, rfl⟩ rfl rfl rfl rfl rfl (by kernel_rfl) Try.func6 chanceThrough_facts
    (of_decide_eq_true (by kernel_rfl)) (by unfold Func.isWrapper; first | (rw [if_pos (by decide +kernel)]; kernel_rfl) | (rw [if_neg (by decide +kernel)]; exact ⟨rfl, rfl⟩))
    (fun os started H enc _ => chanceThrough_lifted os started H enc)

theorem chanceThrough_holds : Rows.ChanceThroughSaid := chanceThrough_over
#print axioms chanceThrough_holds

end Go.Proofs.Ythloceljgmmdbaa
