/- GaugeLoops: the branches and the loops of a field are what the document says, for all fields.
Conditions: none. -/
import Derived.Test.YtegeamfacajeeaaHwC
import Derived.Test.YtegeamfacajeeaaGauE
import Derived.Test.YtegeamfacajeeaaSameU4
import Derived.Test.YtegeamfacajeeaaOpen4
import Derived.Test.YtegeamfacajeeaaJFacts
namespace Go.Proofs.Ytegeamfacajeeaa
set_option linter.unusedVariables false
set_option linter.unusedSimpArgs false
set_option maxRecDepth 1000000
open Go.ChangeShapes Go.WideShapes Go.ChangeAt Go.RowKit
open Um Tm

set_option maxHeartbeats 3200000 in
theorem gLp_long (a b c : Int) (ao : Option Addr) (cap : Nat) (L : List Q) (w : World) (h : 200 < L.length) : Calls Try.prog 7 #[.agg #[.int .i64 a, .int .i64 b, .int .i64 c, .slice ao L.length cap]] w fun e w' => e = .returned (.bool true) ∧ Below w.heap.size w w' := by
  have kn := sane4_any
  have c0 := fun W : World => long4_any a b c ao cap L true W (.inl ⟨h, rfl⟩)
  go_enter Try.func7, Try.ntmps7
  go_wp2_with ((with_reducible refine (c0 _).mono ?_); clear c0; rintro e w1 ⟨rfl, hw1⟩; have hc1 := Tail.cells hw1; have s1 := hw1.size; (try simp at s1); (try have z1_0 : w.heap.size < w1.heap.size := (by omega)); clear s1)
  go_wp2_with ((with_reducible refine (kn _).mono ?_); rintro e w2 ⟨rfl, hw2⟩; have hc2 := Tail.cells hw2; have s2 := hw2.size; (try simp at s2); (try have z2_0 : w.heap.size < w2.heap.size := (by omega)); (try have z2_1 : w1.heap.size < w2.heap.size := (by omega)); clear s2)
  go_ret
  exact ⟨rfl, by repeat (first | (with_reducible exact Below.refl _ _) | (with_reducible refine Below.setCell ?_ ?_ _) | (with_reducible refine Below.drew ?_) | (with_reducible refine Below.alloc ?_ ?_ _) | (with_reducible refine Below.trans ?_ (Below.mono hw2 ?_)) | (with_reducible refine Below.trans ?_ (Below.mono hw1 ?_)) | (with_reducible exact hw2.size) | (with_reducible exact hw1.size) | omega | (simp <;> omega) | (simp <;> (have s := hw2.size; omega)) | (simp <;> (have s := hw1.size; omega)) | (have s0 := hw2.size; (try simp at s0); have s1 := hw1.size; (try simp at s1); (try simp); omega))⟩
set_option maxHeartbeats 6400000 in
theorem gLp_any (a b c r : Int) (ao : Option Addr) (cap : Nat) (L : List Q) (w : World) (B T : List Q) (h : L.length ≤ 200) (hB : B.length ≤ 1000000) (hT : T.length ≤ 1000000) (hm : LiesO w ao L)
    (c1 : ∀ (W : World), LiesO W ao L → Calls Try.prog 29 #[.agg #[.int .i64 a, .int .i64 b, .int .i64 c, .slice ao L.length cap]] W fun e w' => (∃ (o : Option Addr) (k : Nat), e = .returned (.tuple #[.slice o B.length k, .int .i64 r]) ∧ LiesO w' o B) ∧ Below W.heap.size W w')
    (c2 : ∀ (W : World), LiesO W ao L → Calls Try.prog 30 #[.agg #[.int .i64 a, .int .i64 b, .int .i64 c, .slice ao L.length cap]] W fun e w' => (∃ (o : Option Addr) (k : Nat), e = .returned (.tuple #[.slice o B.length k, .int .i64 r]) ∧ LiesO w' o B) ∧ Below W.heap.size W w')
    (c3 : ∀ (W : World), LiesO W ao L → Calls Try.prog 31 #[.agg #[.int .i64 a, .int .i64 b, .int .i64 c, .slice ao L.length cap]] W fun e w' => (∃ (o : Option Addr) (k : Nat), e = .returned (.tuple #[.slice o T.length k, .int .i64 r]) ∧ LiesO w' o T) ∧ Below W.heap.size W w')
    (c4 : ∀ (W : World), LiesO W ao L → Calls Try.prog 32 #[.agg #[.int .i64 a, .int .i64 b, .int .i64 c, .slice ao L.length cap]] W fun e w' => (∃ (o : Option Addr) (k : Nat), e = .returned (.tuple #[.slice o T.length k, .int .i64 r]) ∧ LiesO w' o T) ∧ Below W.heap.size W w') : Calls Try.prog 7 #[.agg #[.int .i64 a, .int .i64 b, .int .i64 c, .slice ao L.length cap]] w fun e w' => e = .returned (.bool true) ∧ Below w.heap.size w w' := by
  have kn := sane4_any
  have c0 := fun W : World => long4_any a b c ao cap L false W (.inr ⟨h, rfl⟩)
  have d1 := fun (W : World) (o o' : Option Addr) (k k' : Nat) (h1 : LiesO W o B) (h2 : LiesO W o' B) => sameU4_any o o' k k' B W h1 h2 hB
  have d2 := fun (W : World) (o o' : Option Addr) (k k' : Nat) (h1 : LiesO W o T) (h2 : LiesO W o' T) => sameU4_any o o' k k' T W h1 h2 hT
  have t1 : (r == r) = true := by simp
  have H := Lib.hid hm
  clear hm h hB hT
  go_enter Try.func7, Try.ntmps7
  go_wp2_with ((with_reducible refine (c0 _).mono ?_); clear c0; rintro e w1 ⟨rfl, hw1⟩; have hc1 := Tail.cells hw1; have s1 := hw1.size; (try simp at s1); (try have z1_0 : w.heap.size < w1.heap.size := (by omega)); clear s1)
  go_wp2_with ((with_reducible refine (c1 _ (H.out.later (by repeat (first | (with_reducible exact Below.refl _ _) | (with_reducible refine Below.setCell ?_ ?_ _) | (with_reducible refine Below.drew ?_) | (with_reducible refine Below.alloc ?_ ?_ _) | (with_reducible refine Below.trans ?_ (Below.mono hw1 ?_)) | (with_reducible exact hw1.size) | omega | (simp <;> omega) | (simp <;> (have s := hw1.size; omega)) | (have s0 := hw1.size; (try simp at s0); (try simp); omega))))).mono ?_); clear c1; rintro e w2 ⟨⟨o2, k2, rfl, hb2⟩, hw2⟩; have hc2 := Tail.cells hw2; have s2 := hw2.size; (try simp at s2); (try have z2_0 : w.heap.size < w2.heap.size := (by omega)); (try have z2_1 : w1.heap.size < w2.heap.size := (by omega)); clear s2; have A2 := Lib.hid hb2; clear hb2)
  go_wp2_with ((with_reducible refine (c2 _ (H.out.later (by repeat (first | (with_reducible exact Below.refl _ _) | (with_reducible refine Below.setCell ?_ ?_ _) | (with_reducible refine Below.drew ?_) | (with_reducible refine Below.alloc ?_ ?_ _) | (with_reducible refine Below.trans ?_ (Below.mono hw2 ?_)) | (with_reducible refine Below.trans ?_ (Below.mono hw1 ?_)) | (with_reducible exact hw2.size) | (with_reducible exact hw1.size) | omega | (simp <;> omega) | (simp <;> (have s := hw2.size; omega)) | (simp <;> (have s := hw1.size; omega)) | (have s0 := hw2.size; (try simp at s0); have s1 := hw1.size; (try simp at s1); (try simp); omega))))).mono ?_); clear c2; rintro e w3 ⟨⟨o3, k3, rfl, hb3⟩, hw3⟩; have hc3 := Tail.cells hw3; have s3 := hw3.size; (try simp at s3); (try have z3_0 : w.heap.size < w3.heap.size := (by omega)); (try have z3_1 : w1.heap.size < w3.heap.size := (by omega)); (try have z3_2 : w2.heap.size < w3.heap.size := (by omega)); clear s3; have A3 := Lib.hid hb3; clear hb3)
  go_wp2_with ((with_reducible refine (c3 _ (H.out.later (by repeat (first | (with_reducible exact Below.refl _ _) | (with_reducible refine Below.setCell ?_ ?_ _) | (with_reducible refine Below.drew ?_) | (with_reducible refine Below.alloc ?_ ?_ _) | (with_reducible refine Below.trans ?_ (Below.mono hw3 ?_)) | (with_reducible refine Below.trans ?_ (Below.mono hw2 ?_)) | (with_reducible refine Below.trans ?_ (Below.mono hw1 ?_)) | (with_reducible exact hw3.size) | (with_reducible exact hw2.size) | (with_reducible exact hw1.size) | omega | (simp <;> omega) | (simp <;> (have s := hw3.size; omega)) | (simp <;> (have s := hw2.size; omega)) | (simp <;> (have s := hw1.size; omega)) | (have s0 := hw3.size; (try simp at s0); have s1 := hw2.size; (try simp at s1); have s2 := hw1.size; (try simp at s2); (try simp); omega))))).mono ?_); clear c3; rintro e w4 ⟨⟨o4, k4, rfl, hb4⟩, hw4⟩; have hc4 := Tail.cells hw4; have s4 := hw4.size; (try simp at s4); (try have z4_0 : w.heap.size < w4.heap.size := (by omega)); (try have z4_1 : w1.heap.size < w4.heap.size := (by omega)); (try have z4_2 : w2.heap.size < w4.heap.size := (by omega)); (try have z4_3 : w3.heap.size < w4.heap.size := (by omega)); clear s4; have A4 := Lib.hid hb4; clear hb4)
  go_wp2_with ((with_reducible refine (c4 _ (H.out.later (by repeat (first | (with_reducible exact Below.refl _ _) | (with_reducible refine Below.setCell ?_ ?_ _) | (with_reducible refine Below.drew ?_) | (with_reducible refine Below.alloc ?_ ?_ _) | (with_reducible refine Below.trans ?_ (Below.mono hw4 ?_)) | (with_reducible refine Below.trans ?_ (Below.mono hw3 ?_)) | (with_reducible refine Below.trans ?_ (Below.mono hw2 ?_)) | (with_reducible refine Below.trans ?_ (Below.mono hw1 ?_)) | (with_reducible exact hw4.size) | (with_reducible exact hw3.size) | (with_reducible exact hw2.size) | (with_reducible exact hw1.size) | omega | (simp <;> omega) | (simp <;> (have s := hw4.size; omega)) | (simp <;> (have s := hw3.size; omega)) | (simp <;> (have s := hw2.size; omega)) | (simp <;> (have s := hw1.size; omega)) | (have s0 := hw4.size; (try simp at s0); have s1 := hw3.size; (try simp at s1); have s2 := hw2.size; (try simp at s2); have s3 := hw1.size; (try simp at s3); (try simp); omega))))).mono ?_); clear c4; rintro e w5 ⟨⟨o5, k5, rfl, hb5⟩, hw5⟩; have hc5 := Tail.cells hw5; have s5 := hw5.size; (try simp at s5); (try have z5_0 : w.heap.size < w5.heap.size := (by omega)); (try have z5_1 : w1.heap.size < w5.heap.size := (by omega)); (try have z5_2 : w2.heap.size < w5.heap.size := (by omega)); (try have z5_3 : w3.heap.size < w5.heap.size := (by omega)); (try have z5_4 : w4.heap.size < w5.heap.size := (by omega)); clear s5; have A5 := Lib.hid hb5; clear hb5)
  go_wp2_with (first | ((with_reducible refine (d1 _ _ _ _ _ (A2.out.later (by repeat (first | (with_reducible exact Below.refl _ _) | (with_reducible refine Below.setCell ?_ ?_ _) | (with_reducible refine Below.drew ?_) | (with_reducible refine Below.alloc ?_ ?_ _) | (with_reducible refine Below.trans ?_ (Below.mono hw5 ?_)) | (with_reducible refine Below.trans ?_ (Below.mono hw4 ?_)) | (with_reducible refine Below.trans ?_ (Below.mono hw3 ?_)) | (with_reducible exact hw5.size) | (with_reducible exact hw4.size) | (with_reducible exact hw3.size) | omega | (simp <;> omega) | (simp <;> (have s := hw5.size; omega)) | (simp <;> (have s := hw4.size; omega)) | (simp <;> (have s := hw3.size; omega)) | (have s0 := hw5.size; (try simp at s0); have s1 := hw4.size; (try simp at s1); have s2 := hw3.size; (try simp at s2); (try simp); omega)))) (A3.out.later (by repeat (first | (with_reducible exact Below.refl _ _) | (with_reducible refine Below.setCell ?_ ?_ _) | (with_reducible refine Below.drew ?_) | (with_reducible refine Below.alloc ?_ ?_ _) | (with_reducible refine Below.trans ?_ (Below.mono hw5 ?_)) | (with_reducible refine Below.trans ?_ (Below.mono hw4 ?_)) | (with_reducible exact hw5.size) | (with_reducible exact hw4.size) | omega | (simp <;> omega) | (simp <;> (have s := hw5.size; omega)) | (simp <;> (have s := hw4.size; omega)) | (have s0 := hw5.size; (try simp at s0); have s1 := hw4.size; (try simp at s1); (try simp); omega))))).mono ?_); clear d1; rintro e w6 ⟨rfl, hw6⟩; have hc6 := Tail.cells hw6; have s6 := hw6.size; (try simp at s6); (try have z6_0 : w.heap.size < w6.heap.size := (by omega)); (try have z6_1 : w1.heap.size < w6.heap.size := (by omega)); (try have z6_2 : w2.heap.size < w6.heap.size := (by omega)); (try have z6_3 : w3.heap.size < w6.heap.size := (by omega)); (try have z6_4 : w4.heap.size < w6.heap.size := (by omega)); (try have z6_5 : w5.heap.size < w6.heap.size := (by omega)); clear s6) | ((with_reducible refine (d2 _ _ _ _ _ (A4.out.later (by repeat (first | (with_reducible exact Below.refl _ _) | (with_reducible refine Below.setCell ?_ ?_ _) | (with_reducible refine Below.drew ?_) | (with_reducible refine Below.alloc ?_ ?_ _) | (with_reducible refine Below.trans ?_ (Below.mono hw6 ?_)) | (with_reducible refine Below.trans ?_ (Below.mono hw5 ?_)) | (with_reducible exact hw6.size) | (with_reducible exact hw5.size) | omega | (simp <;> omega) | (simp <;> (have s := hw6.size; omega)) | (simp <;> (have s := hw5.size; omega)) | (have s0 := hw6.size; (try simp at s0); have s1 := hw5.size; (try simp at s1); (try simp); omega)))) (A5.out.later (by repeat (first | (with_reducible exact Below.refl _ _) | (with_reducible refine Below.setCell ?_ ?_ _) | (with_reducible refine Below.drew ?_) | (with_reducible refine Below.alloc ?_ ?_ _) | (with_reducible refine Below.trans ?_ (Below.mono hw6 ?_)) | (with_reducible exact hw6.size) | omega | (simp <;> omega) | (simp <;> (have s := hw6.size; omega)) | (have s0 := hw6.size; (try simp at s0); (try simp); omega))))).mono ?_); clear d2; rintro e w7 ⟨rfl, hw7⟩; have hc7 := Tail.cells hw7; have s7 := hw7.size; (try simp at s7); (try have z7_0 : w.heap.size < w7.heap.size := (by omega)); (try have z7_1 : w1.heap.size < w7.heap.size := (by omega)); (try have z7_2 : w2.heap.size < w7.heap.size := (by omega)); (try have z7_3 : w3.heap.size < w7.heap.size := (by omega)); (try have z7_4 : w4.heap.size < w7.heap.size := (by omega)); (try have z7_5 : w5.heap.size < w7.heap.size := (by omega)); (try have z7_6 : w6.heap.size < w7.heap.size := (by omega)); clear s7) | ((with_reducible refine (kn _).mono ?_); rintro e w8 ⟨rfl, hw8⟩; have hc8 := Tail.cells hw8; have s8 := hw8.size; (try simp at s8); (try have z8_0 : w.heap.size < w8.heap.size := (by omega)); (try have z8_1 : w1.heap.size < w8.heap.size := (by omega)); (try have z8_2 : w2.heap.size < w8.heap.size := (by omega)); (try have z8_3 : w3.heap.size < w8.heap.size := (by omega)); (try have z8_4 : w4.heap.size < w8.heap.size := (by omega)); (try have z8_5 : w5.heap.size < w8.heap.size := (by omega)); (try have z8_6 : w6.heap.size < w8.heap.size := (by omega)); (try have z8_7 : w7.heap.size < w8.heap.size := (by omega)); clear s8))
  go_ret
  exact ⟨rfl, by repeat (first | (with_reducible exact Below.refl _ _) | (with_reducible refine Below.setCell ?_ ?_ _) | (with_reducible refine Below.drew ?_) | (with_reducible refine Below.alloc ?_ ?_ _) | (with_reducible refine Below.trans ?_ (Below.mono hw8 ?_)) | (with_reducible refine Below.trans ?_ (Below.mono hw7 ?_)) | (with_reducible refine Below.trans ?_ (Below.mono hw6 ?_)) | (with_reducible refine Below.trans ?_ (Below.mono hw5 ?_)) | (with_reducible refine Below.trans ?_ (Below.mono hw4 ?_)) | (with_reducible refine Below.trans ?_ (Below.mono hw3 ?_)) | (with_reducible refine Below.trans ?_ (Below.mono hw2 ?_)) | (with_reducible refine Below.trans ?_ (Below.mono hw1 ?_)) | (with_reducible exact hw8.size) | (with_reducible exact hw7.size) | (with_reducible exact hw6.size) | (with_reducible exact hw5.size) | (with_reducible exact hw4.size) | (with_reducible exact hw3.size) | (with_reducible exact hw2.size) | (with_reducible exact hw1.size) | omega | (simp <;> omega) | (simp <;> (have s := hw8.size; omega)) | (simp <;> (have s := hw7.size; omega)) | (simp <;> (have s := hw6.size; omega)) | (simp <;> (have s := hw5.size; omega)) | (simp <;> (have s := hw4.size; omega)) | (simp <;> (have s := hw3.size; omega)) | (simp <;> (have s := hw2.size; omega)) | (simp <;> (have s := hw1.size; omega)) | (have s0 := hw8.size; (try simp at s0); have s1 := hw7.size; (try simp at s1); have s2 := hw6.size; (try simp at s2); have s3 := hw5.size; (try simp at s3); have s4 := hw4.size; (try simp at s4); have s5 := hw3.size; (try simp at s5); have s6 := hw2.size; (try simp at s6); have s7 := hw1.size; (try simp at s7); (try simp); omega))⟩
theorem gaugeLoops_walk (a b c : Int) (ao : Option Addr) (L : List Q) (cap : Nat) (w : World) (_ : L.length ≤ maxLen) (hm : LiesO w ao L) : Calls Try.prog 7 #[.agg #[.int .i64 a, .int .i64 b, .int .i64 c, .slice ao L.length cap]] w fun e w' => e = .returned (.bool true) ∧ Below w.heap.size w w' := by
  by_cases h : 200 < L.length
  · exact gLp_long a b c ao cap L w h
  obtain ⟨ns, r, hr⟩ := numsR_exG a b c L
  by_cases h0 : r = 0
  · subst h0
    obtain ⟨hf, hS, hF, N, hN⟩ := numsR_okG hr
    have hp := fld_pos hf
    have hn := hF.n
    have hb := brL_len a b c N L
    have hb6 : (brL a b c N L).length ≤ 1000000 := by omega
    have ht6 : (lpL a b c N L).length ≤ 1000000 := by
      have := lpK_len (fxL a b c N L) (trL a b c N) L.length
      unfold lpL
      omega
    refine gLp_any a b c 0 ao cap L w (brL a b c N L) (lpL a b c N L) (by omega) hb6 ht6 hm ?_ ?_ ?_ ?_
    · intro W l1
      obtain ⟨b1, o1, rfl, m1⟩ := liesO_some l1 hp
      exact (gaBr_ok a b c b1 o1 cap N L ns W m1 hF hS hr hN).mono fun e w' ⟨⟨g, he, hl, _⟩, hw⟩ => ⟨⟨some ⟨g, 0, none⟩, N, by rw [hb]; exact he, .inr ⟨g, 0, rfl, hl.h⟩⟩, hw⟩
    · intro W l1
      obtain ⟨b1, o1, rfl, m1⟩ := liesO_some l1 hp
      exact (refBrs_ok a b c b1 o1 cap N L ns W m1 hr hN (by omega)).mono fun e w' ⟨⟨g, k, he, hl⟩, hw⟩ => ⟨⟨some ⟨g, 0, none⟩, k, by rw [hb]; exact he, .inr ⟨g, 0, rfl, hl.h⟩⟩, hw⟩
    · intro W l1
      obtain ⟨b1, o1, rfl, m1⟩ := liesO_some l1 hp
      exact gaLp_ok a b c b1 o1 cap N L ns W m1 hf hS hr hN
    · intro W l1
      obtain ⟨b1, o1, rfl, m1⟩ := liesO_some l1 hp
      exact refLps_ok a b c b1 o1 cap N L ns W m1 hr hN (by omega)
  · have hl6 : L.length ≤ 1000000 := by omega
    refine gLp_any a b c r ao cap L w [] [] (by omega) (by simp) (by simp) hm ?_ ?_ ?_ ?_
    · exact fun W l1 => (gaBr_bad a b c r ao cap L ns W l1 hr h0 hl6).mono fun e w' ⟨he, hw⟩ => ⟨⟨none, 0, he, .inl rfl⟩, hw⟩
    · exact fun W l1 => (refBr_bad a b c r ao cap L ns W l1 hr h0 hl6).mono fun e w' ⟨he, hw⟩ => ⟨⟨none, 0, he, .inl rfl⟩, hw⟩
    · exact fun W l1 => (gaLp_bad a b c r ao cap L ns W l1 hr h0 hl6).mono fun e w' ⟨he, hw⟩ => ⟨⟨none, 0, he, .inl rfl⟩, hw⟩
    · exact fun W l1 => (refLp_bad a b c r ao cap L ns W l1 hr h0 hl6).mono fun e w' ⟨he, hw⟩ => ⟨⟨none, 0, he, .inl rfl⟩, hw⟩

/-! ### The statement of the law GaugeLoops, out of its walk -/
set_option maxRecDepth 100000 in
theorem gaugeLoops_lifted (os : Os) (started : os.Started) (H : Type) (enc : TypeId × Value → H) :
    ReturnsInHanded {} Try.checked os 7 .any (Rows.gaugeLoopsSpec.pre6 enc Try.prog Try.f7 Rows.gaugeLoopsRow.domain false) (Rows.gaugeLoopsSpec.post enc Try.prog Try.f7 false true false false) := by
  refine returnsInHanded_of_change (C := Try.checked) own started (by kernel_rfl) Try.func7
    (ChangeSpec.witness6 (enc := enc) (C := Try.checked) false ⟨#[], #[.agg #[.int .i64 0, .int .i64 0, .int .i64 0, .slice none 0 0]], []⟩ 8 (by kernel_rfl) (by kernel_rfl) (by kernel_rfl) (by kernel_rfl)) ?_
  intro W base args ds gs before hval0 hW hcnd _
  have hval : ∀ (j : Nat) t v, Try.f7.params[j]? = some t → args[j]? = some v → Value.okWide Try.prog W .any base t v := hval0
  have hW' := hW
  obtain ⟨p, q, hA0, hV, rfl, hfz, hnd⟩ := hW
  have hA : DataW.TrodAll enc Try.prog W 0 (fun _ => true) true Try.f7.params.toList args.toList ds p := hA0
  rw [Try.params7] at hA hval
  obtain ⟨v0, vs0, d0, ds0, p0, q0, hargs, rfl, rfl, h0, r0⟩ := trodAll_cons hA
  obtain ⟨rfl, rfl, rfl⟩ := trodAll_nil r0
  obtain rfl : args = #[v0] := by cases args; simp_all
  obtain ⟨rfl, rfl⟩ := trodVars_none hV
  have k0 := h0
  have lt0 : ∀ x ∈ p0, x.block < W.heap.size := by obtain ⟨m, hm⟩ := k0; exact DataW.trod_lt m _ _ _ hm
  obtain ⟨x0, y0, z0, ao0, L0, cap0, rfl, hl0, hm0⟩ := open_field (hval 0 25 v0 rfl rfl) h0
  clear hA0 hval0
  refine (gaugeLoops_walk x0 y0 z0 ao0 L0 cap0 W hl0 hm0).mono fun e W' ⟨he, bel⟩ => ?_
  subst he
  exact ⟨_, rfl, _, _, _, [], _, [], hW', trodAll_mk1 (shut_bool Try.underlying4 _), (trodAll_cons_mk (Below.trod laidOut (by kernel_rfl) (of_decide_eq_true (by kernel_rfl)) k0 bel lt0) trodAll_mk0), rfl, bel.frame _, fun h => by cases h⟩

theorem gaugeLoops_jf9 : (Rows.gaugeLoopsRow.inPlace == Try.prog.inPlace 7) = true := by kernel_rfl
theorem gaugeLoops_jf10 : (Rows.gaugeLoopsRow.unfollowed == Try.prog.unfollowed 7) = true := by kernel_rfl
theorem gaugeLoops_jf11 : (Rows.gaugeLoopsRow.recurses == Try.prog.recurses 7) = true := by kernel_rfl
theorem gaugeLoops_jf12 : (Rows.gaugeLoopsRow.named == Try.prog.varsNamed 7) = true := by kernel_rfl
theorem gaugeLoops_facts : joinedFacts Try.prog 7 Try.f7 Rows.gaugeLoopsSpec Rows.gaugeLoopsRow = true := by
  unfold joinedFacts
  exact (band (band (band (band (band (band (band (band (band (band (band (band (band (band (band (band (band (band (band (band (band (band (band (band (band (band (band (band (band (band (band (by kernel_rfl) jf1) jf2) (by kernel_rfl)) (by kernel_rfl)) (by kernel_rfl)) jf6) (by kernel_rfl)) jf8) gaugeLoops_jf9) gaugeLoops_jf10) gaugeLoops_jf11) gaugeLoops_jf12) (by kernel_rfl)) (by kernel_rfl)) (by kernel_rfl)) (by kernel_rfl)) (by kernel_rfl)) (by kernel_rfl)) (by kernel_rfl)) (by kernel_rfl)) (by kernel_rfl)) (by kernel_rfl)) (by kernel_rfl)) jf24) jf25) jf26) jf27) (by kernel_rfl)) (by kernel_rfl)) (by kernel_rfl)) (by kernel_rfl))

theorem gaugeLoops_over : Rows.gaugeLoopsRow.holds Try.pinned (OpenSpec.ofChange Rows.gaugeLoopsSpec) :=
  OpenClaim.holds_of_wide 7 Try.f7 rfl rfl rfl rfl rfl rfl rfl ⟨rfl, rfl, rfl, rfl, rfl⟩ rfl rfl rfl rfl rfl (by kernel_rfl) Try.func7 gaugeLoops_facts
    (of_decide_eq_true (by kernel_rfl)) (by unfold Func.isWrapper; first | (rw [if_pos (by decide +kernel)]; kernel_rfl) | (rw [if_neg (by decide +kernel)]; exact ⟨rfl, rfl⟩))
    (fun os started H enc _ => gaugeLoops_lifted os started H enc)

theorem gaugeLoops_holds : Rows.GaugeLoopsSaid := gaugeLoops_over
#print axioms gaugeLoops_holds

end Go.Proofs.Ytegeamfacajeeaa
