/- LoopWinds: the means around the torus are the document's, for all fields and directions.
Conditions: none. -/
import Derived.Test.YtjidbajcnomceaaGreatMcC
import Derived.Test.YtjidbajcnomceaaGreatLooC
import Derived.Test.YtjidbajcnomceaaGreatOpen4
import Derived.Test.YtjidbajcnomceaaGreatWlkA
import Derived.Test.YtjidbajcnomceaaGreatJFacts
namespace Go.Proofs.YtjidbajcnomceaaGreat
set_option linter.unusedVariables false
set_option linter.unusedSimpArgs false
set_option maxRecDepth 1000000
open Go.ChangeShapes Go.WideShapes Go.ChangeAt Go.RowKit
open Um Tm Lm Km

set_option maxHeartbeats 6400000 in
theorem loopWinds_core (a b c d m1 m2 e3 : Int) (ao : Option Addr) (m cap : Nat) (L : List Q) (w : World) (hm : LiesO w ao L)
    (hLg : ∀ W : World, Calls Tryz.prog 8 #[.agg #[.int .i64 a, .int .i64 b, .int .i64 c, .slice ao m cap]] W fun e w' => e = .returned (.bool false) ∧ Below W.heap.size W w')
    (c3 : ∀ W : World, LiesO W ao L → Calls Tryz.prog 23 #[.agg #[.int .i64 a, .int .i64 b, .int .i64 c, .slice ao m cap], .int .i64 d] W fun e w' => e = .returned (.tuple #[.agg #[.int .i64 m1, .int .i64 m2], .int .i64 e3]) ∧ Below W.heap.size W w')
    (c4 : ∀ W : World, LiesO W ao L → Calls Tryz.prog 24 #[.agg #[.int .i64 a, .int .i64 b, .int .i64 c, .slice ao m cap], .int .i64 d] W fun e w' => e = .returned (.tuple #[.agg #[.int .i64 m1, .int .i64 m2], .int .i64 e3]) ∧ Below W.heap.size W w')
    : Calls Tryz.prog 6 #[.agg #[.int .i64 a, .int .i64 b, .int .i64 c, .slice ao m cap], .int .i64 d] w fun e w' => e = .returned (.bool true) ∧ Below w.heap.size w w' := by
  have kn := known3_any
  have H0 := Lib.hid hm
  clear hm
  go_enter Tryz.func6, Tryz.ntmps6
  go_wp2_with (fail)
  refine (hLg _).mono ?_
  rintro e w1 ⟨rfl, hw1⟩
  have bw1 : Below w.heap.size w w1 := bel1 hw1
  have TF1 := Lib.hid (FW.n1.later hw1)
  have H1 := Lib.hid (H0.out.later bw1)
  have HB1 := Lib.hid bw1
  clear hw1 bw1 H0
  obtain ⟨tf1_0, tf1_1, tf1_2, tf1_3, tf1_4, tf1_5⟩ := TF1.out
  go_wp2_with (fail)
  refine (c3 _ (H1.out)).mono ?_
  rintro e w2 ⟨rfl, hw2⟩
  clear tf1_0 tf1_1 tf1_2 tf1_3 tf1_4 tf1_5
  have bw2 : Below w1.heap.size w1 w2 := hw2
  have H2 := Lib.hid (H1.out.later bw2)
  have TF2 := Lib.hid (TF1.out.later bw2)
  have HB2 := Lib.hid (HB1.out.trans (bw2.mono HB1.out.size))
  clear hw2 bw2 H1 TF1 HB1
  obtain ⟨tf2_0, tf2_1, tf2_2, tf2_3, tf2_4, tf2_5⟩ := TF2.out
  go_wp2_with (fail)
  refine (c4 _ (H2.out.later ba1)).mono ?_
  rintro e w3 ⟨rfl, hw3⟩
  clear tf2_0 tf2_1 tf2_2 tf2_3 tf2_4 tf2_5
  have bw3 : Below w2.heap.size w2 w3 := bel1 hw3
  have TM3 := Lib.hid (C2.n1.later hw3)
  have H3 := Lib.hid (H2.out.later bw3)
  have TF3 := Lib.hid (TF2.out.later bw3)
  have HB3 := Lib.hid (HB2.out.trans (bw3.mono HB2.out.size))
  clear hw3 bw3 H2 TF2 HB2
  obtain ⟨tm3_0, tm3_1, tm3_2, tm3_3⟩ := TM3.out
  go_wp2_with (fail)
  refine (kn _).mono ?_
  rintro e w4 ⟨rfl, hw4⟩
  clear tm3_0 tm3_1 tm3_2 tm3_3
  have bw4 : Below w3.heap.size w3 w4 := bel1 hw4
  have TN4 := Lib.hid (C2.n1.later hw4)
  have H4 := Lib.hid (H3.out.later bw4)
  have TF4 := Lib.hid (TF3.out.later bw4)
  have TM4 := Lib.hid (TM3.out.later bw4)
  have HB4 := Lib.hid (HB3.out.trans (bw4.mono HB3.out.size))
  clear hw4 bw4 H3 TF3 TM3 HB3
  go_wp2
  go_ret
  exact ⟨rfl, HB4.out⟩

set_option maxHeartbeats 800000 in
theorem loopWinds_long (a b c d : Int) (fo : Option Addr) (n cap : Nat) (w : World) (hn : 100 < n) : Calls Tryz.prog 6 #[.agg #[.int .i64 a, .int .i64 b, .int .i64 c, .slice fo n cap], .int .i64 d] w fun e w' => e = .returned (.bool true) ∧ Below w.heap.size w w' := by
  have kn := known3_any
  have lg := fun W : World => long_any a b c fo cap n true W (.inr ⟨hn, rfl⟩)
  go_enter Tryz.func6, Tryz.ntmps6
  go_wp2_with (first | ((with_reducible refine (lg _).mono ?_); rintro e w1 ⟨rfl, hw1⟩; have hc1 := Tail.cells hw1; have s1 := hw1.size; (try simp at s1); (try have z1_0 : w.heap.size < w1.heap.size := (by omega)); clear s1) | ((with_reducible refine (kn _).mono ?_); rintro e w2 ⟨rfl, hw2⟩; have hc2 := Tail.cells hw2; have s2 := hw2.size; (try simp at s2); (try have z2_0 : w.heap.size < w2.heap.size := (by omega)); (try have z2_1 : w1.heap.size < w2.heap.size := (by omega)); clear s2))
  go_ret
  exact ⟨rfl, by repeat (first | (with_reducible exact Below.refl _ _) | (with_reducible refine Below.setCell ?_ ?_ _) | (with_reducible refine Below.drew ?_) | (with_reducible refine Below.alloc ?_ ?_ _) | (with_reducible refine Below.trans ?_ (Below.mono hw2 ?_)) | (with_reducible refine Below.trans ?_ (Below.mono hw1 ?_)) | (with_reducible exact hw2.size) | (with_reducible exact hw1.size) | omega | (simp <;> omega) | (simp <;> (have s := hw2.size; omega)) | (simp <;> (have s := hw1.size; omega)) | (have s0 := hw2.size; (try simp at s0); have s1 := hw1.size; (try simp at s1); (try simp); omega))⟩
theorem loopWinds_walk (a b c : Int) (fo : Option Addr) (L : List Q) (cap : Nat) (d : Int) (w : World) (hc : L.length ≤ maxLen) (hL : LiesO w fo L) : Calls Tryz.prog 6 #[.agg #[.int .i64 a, .int .i64 b, .int .i64 c, .slice fo L.length cap], .int .i64 d] w fun e w' => e = .returned (.bool true) ∧ Below w.heap.size w w' := by
  by_cases hn : 100 < L.length
  · exact loopWinds_long a b c d fo _ cap w hn
  · have lg := fun W : World => long_any a b c fo cap L.length false W (.inl ⟨by omega, rfl⟩)
    obtain ⟨r, hr⟩ := fldR_ex a b c L
    by_cases h0 : r = 0
    · subst h0
      have hF := fldR_Fl hr
      obtain ⟨-, -, p3, -⟩ := mul_rng hF.z.a1 hF.z.a4 hF.z.b1 hF.z.b4 hF.z.c1 hF.z.c4
      by_cases hd : 0 ≤ d ∧ d ≤ 2
      · obtain ⟨bl, off, rfl, hli⟩ := fld_some hr hL
        have hne : L ≠ [] := by
          rintro rfl
          have h3 := hF.n
          simp at h3; omega
        have get : ∀ W : World, LiesO W (some ⟨bl, off, none⟩) L → Lies W bl off L := fun W h => by
          rcases h with h | ⟨b1, o1, e, h⟩
          · exact absurd h hne
          · simp at e
            obtain ⟨rfl, rfl⟩ := e
            exact h
        obtain ⟨N, hN⟩ := Int.eq_ofNat_of_zero_le (show 0 ≤ a * b * c by omega)
        have h3 : d = 0 ∨ d = 1 ∨ d = 2 := by omega
        rcases h3 with rfl | rfl | rfl
        · exact loopWinds_core a b c 0 _ _ 0 (some ⟨bl, off, none⟩) L.length cap L w hL lg
            (fun W h => polyakov_ok0 a b c bl off cap N L W (get W h) hF hN.symm) (fun W h => refPolyakov_ok0 a b c bl off cap N L W (get W h) hF hN.symm)
        · exact loopWinds_core a b c 1 _ _ 0 (some ⟨bl, off, none⟩) L.length cap L w hL lg
            (fun W h => polyakov_ok1 a b c bl off cap N L W (get W h) hF hN.symm) (fun W h => refPolyakov_ok1 a b c bl off cap N L W (get W h) hF hN.symm)
        · exact loopWinds_core a b c 2 _ _ 0 (some ⟨bl, off, none⟩) L.length cap L w hL lg
            (fun W h => polyakov_ok2 a b c bl off cap N L W (get W h) hF hN.symm) (fun W h => refPolyakov_ok2 a b c bl off cap N L W (get W h) hF hN.symm)
      · exact loopWinds_core a b c d 0 0 1 fo L.length cap L w hL lg
          (fun W h => polyakov_bad a b c d 1 fo cap L W h (.inr (.inr (.inl ⟨hr, by omega, by omega, hd, rfl⟩))) (by decide) (by omega)) (fun W h => refPolyakov_arg a b c d fo cap L W h hr hd (by omega))
    · exact loopWinds_core a b c d 0 0 r fo L.length cap L w hL lg
        (fun W h => polyakov_bad a b c d r fo cap L W h (.inl ⟨hr, h0⟩) h0 (by omega)) (fun W h => refPolyakov_bad a b c r d fo cap L W h hr h0 (by omega))

/-! ### The statement of the law LoopWinds, out of its walk -/
set_option maxRecDepth 100000 in
theorem loopWinds_lifted (os : Os) (started : os.Started) (H : Type) (enc : TypeId × Value → H) :
    ReturnsInHanded {} Tryz.checked os 6 .any (Rows.loopWindsSpec.pre6 enc Tryz.prog Tryz.f6 Rows.loopWindsRow.domain false) (Rows.loopWindsSpec.post enc Tryz.prog Tryz.f6 false true false false) := by
  refine returnsInHanded_of_change (C := Tryz.checked) own started (by kernel_rfl) Tryz.func6
    (ChangeSpec.witness6 (enc := enc) (C := Tryz.checked) false ⟨#[], #[.agg #[.int .i64 0, .int .i64 0, .int .i64 0, .slice none 0 0], .int .i64 0], []⟩ 8 (by kernel_rfl) (by kernel_rfl) (by kernel_rfl) (by kernel_rfl)) ?_
  intro W base args ds gs before hval0 hW hcnd _
  have hval : ∀ (j : Nat) t v, Tryz.f6.params[j]? = some t → args[j]? = some v → Value.okWide Tryz.prog W .any base t v := hval0
  have hW' := hW
  obtain ⟨p, q, hA0, hV, rfl, hfz, hnd⟩ := hW
  have hA : DataW.TrodAll enc Tryz.prog W 0 (fun _ => true) true Tryz.f6.params.toList args.toList ds p := hA0
  rw [Tryz.params6] at hA hval
  obtain ⟨v0, vs0, d0, ds0, p0, q0, hargs, rfl, rfl, h0, r0⟩ := trodAll_cons hA
  obtain ⟨v1, vs1, d1, ds1, p1, q1, rfl, rfl, rfl, h1, r1⟩ := trodAll_cons r0
  obtain ⟨rfl, rfl, rfl⟩ := trodAll_nil r1
  obtain rfl : args = #[v0, v1] := by cases args; simp_all
  obtain ⟨rfl, rfl⟩ := trodVars_none hV
  have k0 := h0
  have lt0 : ∀ x ∈ p0, x.block < W.heap.size := by obtain ⟨m, hm⟩ := k0; exact DataW.trod_lt m _ _ _ hm
  obtain ⟨x0, y0, z0, ao0, L0, cap0, rfl, hl0, hm0⟩ := open_field (hval 0 25 v0 rfl rfl) h0
  have k1 := h1
  have lt1 : ∀ x ∈ p1, x.block < W.heap.size := by obtain ⟨m, hm⟩ := k1; exact DataW.trod_lt m _ _ _ hm
  obtain ⟨x1, e1, -, -, -⟩ := open_int Tryz.underlying3 (hval 1 3 v1 rfl rfl) h1
  subst e1
  clear hA0 hval0
  refine (loopWinds_walk x0 y0 z0 ao0 L0 cap0 x1 W hl0 hm0).mono fun e W' ⟨he, bel⟩ => ?_
  subst he
  exact ⟨_, rfl, _, _, _, [], _, [], hW', trodAll_mk1 (shut_bool Tryz.underlying4 _), (trodAll_cons_mk (Below.trod laidOut (by kernel_rfl) (of_decide_eq_true (by kernel_rfl)) k0 bel lt0) (trodAll_cons_mk (Below.trod laidOut (by kernel_rfl) (of_decide_eq_true (by kernel_rfl)) k1 bel lt1) trodAll_mk0)), rfl, bel.frame _, fun h => by cases h⟩

theorem loopWinds_jf9 : (Rows.loopWindsRow.inPlace == Tryz.prog.inPlace 6) = true := by kernel_rfl
theorem loopWinds_jf10 : (Rows.loopWindsRow.unfollowed == Tryz.prog.unfollowed 6) = true := by kernel_rfl
theorem loopWinds_jf11 : (Rows.loopWindsRow.recurses == Tryz.prog.recurses 6) = true := by kernel_rfl
theorem loopWinds_jf12 : (Rows.loopWindsRow.named == Tryz.prog.varsNamed 6) = true := by kernel_rfl
theorem loopWinds_facts : joinedFacts Tryz.prog 6 Tryz.f6 Rows.loopWindsSpec Rows.loopWindsRow = true := by
  unfold joinedFacts
  exact (band (band (band (band (band (band (band (band (band (band (band (band (band (band (band (band (band (band (band (band (band (band (band (band (band (band (band (band (band (band (band (by kernel_rfl) jf1) jf2) (by kernel_rfl)) (by kernel_rfl)) (by kernel_rfl)) jf6) (by kernel_rfl)) jf8) loopWinds_jf9) loopWinds_jf10) loopWinds_jf11) loopWinds_jf12) (by kernel_rfl)) (by kernel_rfl)) (by kernel_rfl)) (by kernel_rfl)) (by kernel_rfl)) (by kernel_rfl)) (by kernel_rfl)) (by kernel_rfl)) (by kernel_rfl)) (by kernel_rfl)) (by kernel_rfl)) jf24) jf25) jf26) jf27) (by kernel_rfl)) (by kernel_rfl)) (by kernel_rfl)) (by kernel_rfl))

theorem loopWinds_over : Rows.loopWindsRow.holds Tryz.pinned (OpenSpec.ofChange Rows.loopWindsSpec) :=
  OpenClaim.holds_of_wide 6 Tryz.f6 rfl rfl rfl rfl rfl rfl rfl ⟨rfl, rfl, rfl, rfl, rfl⟩ rfl rfl rfl rfl rfl (by kernel_rfl) Tryz.func6 loopWinds_facts
    (of_decide_eq_true (by kernel_rfl)) (by unfold Func.isWrapper; first | (rw [if_pos (by decide +kernel)]; kernel_rfl) | (rw [if_neg (by decide +kernel)]; exact ⟨rfl, rfl⟩))
    (fun os started H enc _ => loopWinds_lifted os started H enc)

theorem loopWinds_holds : Rows.LoopWindsSaid := loopWinds_over
#print axioms loopWinds_holds

end Go.Proofs.YtjidbajcnomceaaGreat
