/- PathReverses: a run that is run back with opposite momenta gives the field and the momenta with which it began, for all fields, lists and numbers.
Conditions: none. -/
import Derived.Test.YtilbhcjnkmeecaaKmC
import Derived.Test.YtilbhcjnkmeecaaSane6
import Derived.Test.YtilbhcjnkmeecaaLawValK
import Derived.Test.YtilbhcjnkmeecaaOpenKA
import Derived.Test.YtilbhcjnkmeecaaJFacts
namespace Go.Proofs.Ytilbhcjnkmeecaa
set_option linter.unusedVariables false
set_option linter.unusedSimpArgs false
set_option maxRecDepth 1000000
open Go.ChangeShapes Go.WideShapes Go.ChangeAt Go.RowKit
open Um Tm Cm Km

theorem same_ownK (a b c : Int) (g k n : Nat) (fo : Option Addr) (cap : Nat) (L : List Q) (w : World) (hn : L.length = n) (h1 : Lies w g 0 L) (h2 : LiesO w fo L) (hlen : L.length ≤ 100) : Calls Try.prog 29 #[.agg #[.int .i64 a, .int .i64 b, .int .i64 c, .slice (some ⟨g, 0, none⟩) n k], .agg #[.int .i64 a, .int .i64 b, .int .i64 c, .slice fo n cap]] w fun e w' => e = .returned (.bool true) ∧ Below w.heap.size w w' := by
  subst hn
  by_cases hL : L = []
  · subst hL
    exact sameF_nil a b c (some ⟨g, 0, none⟩) fo k cap w
  · rcases h2 with h2 | ⟨bl, off, rfl, h2⟩
    · exact absurd h2 hL
    · exact sameF_some a b c g 0 k bl off cap L w h1 h2 (by omega)
set_option maxHeartbeats 6400000 in
theorem pathReverses_ok (a b c : Int) (bl off cap pb po pc n N x : Nat) (L : List Q) (l : List Int) (w : World) (h : Lies w bl off L) (hp : LiesI w pb po l) (hst : St a b c n L l) (hN : (N : Int) = a * b * c) (hx : x ≤ 100) : Calls Try.prog 7 #[.agg #[.int .i64 a, .int .i64 b, .int .i64 c, .slice (some ⟨bl, off, none⟩) n cap], .slice (some ⟨pb, po, none⟩) n pc, .int .i64 x] w fun e w' => e = .returned (.bool true) ∧ Below w.heap.size w w' := by
  have kn := known6_any
  have h48 : n ≤ 48 := by have := hst.f.n; have := hst.e; have := hst.f.z.p; omega
  have c0 := fun W : World => long6_any a b c (some ⟨bl, off, none⟩) (some ⟨pb, po, none⟩) cap pc n n false W (.inl ⟨by omega, by omega, rfl⟩)
  have c1 : ∀ W : World, Lies W bl off L → LiesI W pb po l → Calls Try.prog 27 #[.agg #[.int .i64 a, .int .i64 b, .int .i64 c, .slice (some ⟨bl, off, none⟩) n cap], .slice (some ⟨pb, po, none⟩) n pc, .int .i64 x] W fun e w' => RetRun a b c n W.heap.size (rn a b c (L, l) x) e w' ∧ Below W.heap.size W w' := fun W h1 h2 => by
    have := run_ok a b c bl off cap pb po pc n N x L l W h1 h2 hst hN hx
    rwa [hst.e] at this
  have hs1 := hst.rn x
  have hback := rn_back hst x
  obtain ⟨⟨L1, l1⟩, hs⟩ : ∃ s, rn a b c (L, l) x = s := ⟨_, rfl⟩
  rw [hs] at c1 hs1 hback
  simp only at hs1
  have hs2 := hs1.rv
  have c2 : ∀ (W : World) (g k gm km : Nat), Lies W g 0 L1 → LiesI W gm 0 l1 → Calls Try.prog 14 #[.agg #[.int .i64 a, .int .i64 b, .int .i64 c, .slice (some ⟨g, 0, none⟩) n k], .slice (some ⟨gm, 0, none⟩) n km] W fun e w' => RetV W.heap.size (Km.rvl l1) n e w' ∧ Below W.heap.size W w' := fun W g k gm km h1 h2 => by
    obtain ⟨hr, hv⟩ := St_nums hs1
    have := reverse_ok a b c (some ⟨g, 0, none⟩) k gm 0 km n L1 _ l1 W (.inr ⟨g, 0, rfl, h1⟩) h2 hs1.m hr hv (by rw [hs1.e]; exact h48)
    rwa [hs1.e] at this
  have c3 : ∀ (W : World) (g k gm km : Nat), Lies W g 0 L1 → LiesI W gm 0 (Km.rvl l1) → Calls Try.prog 27 #[.agg #[.int .i64 a, .int .i64 b, .int .i64 c, .slice (some ⟨g, 0, none⟩) n k], .slice (some ⟨gm, 0, none⟩) n km, .int .i64 x] W fun e w' => RetRun a b c n W.heap.size (L, Km.rvl l) e w' ∧ Below W.heap.size W w' := fun W g k gm km h1 h2 => by
    have := run_ok a b c g 0 k gm 0 km n N x L1 (Km.rvl l1) W h1 h2 hs2 hN hx
    rw [show ((L1, Km.rvl l1) : List Q × List Int) = rv (L1, l1) from rfl, hback, hs1.e] at this
    exact this
  have hs3 := hst.rv
  have c4 : ∀ (W : World) (g k gm km : Nat), Lies W g 0 L → LiesI W gm 0 (Km.rvl l) → Calls Try.prog 14 #[.agg #[.int .i64 a, .int .i64 b, .int .i64 c, .slice (some ⟨g, 0, none⟩) n k], .slice (some ⟨gm, 0, none⟩) n km] W fun e w' => RetV W.heap.size l n e w' ∧ Below W.heap.size W w' := fun W g k gm km h1 h2 => by
    obtain ⟨hr, hv⟩ := St_nums hs3
    have := reverse_ok a b c (some ⟨g, 0, none⟩) k gm 0 km n L _ (Km.rvl l) W (.inr ⟨g, 0, rfl, h1⟩) h2 hs3.m hr hv (by rw [hs3.e]; exact h48)
    rw [hs3.e, show (Km.rvl l).map oppN = l from Km.rvl_rvl hst.k] at this
    exact this
  have c5 := fun (W : World) (g k : Nat) (h1 : Lies W g 0 L) (h2 : Lies W bl off L) => same_ownK a b c g k n (some ⟨bl, off, none⟩) cap L W hst.e h1 (.inr ⟨bl, off, rfl, h2⟩) (by rw [hst.e]; omega)
  have c6 : ∀ (g1 k1 : Nat) (W : World), LiesI W g1 0 l → LiesI W pb po l → Calls Try.prog 18 #[.slice (some ⟨g1, 0, none⟩) n k1, .slice (some ⟨pb, po, none⟩) n pc] W fun e w' => e = .returned (.bool true) ∧ Below W.heap.size W w' := fun g1 k1 W h1 h2 => by
    have := sameK_any (some ⟨g1, 0, none⟩) (some ⟨pb, po, none⟩) k1 pc n n l l W (.inr ⟨g1, 0, rfl, h1⟩) (.inr ⟨pb, po, rfl, h2⟩) hst.m hst.m (by omega)
    rwa [decide_eq_true rfl] at this
  have H := Lib.hid h
  have HP := Lib.hid hp
  clear h hp hst hN hx hs hs1 hs2 hs3 hback
  go_enter Try.func7, Try.ntmps7
  go_wp2_with (first | ((with_reducible refine (c0 _).mono ?_); rintro e w1 ⟨rfl, hw1⟩; have hc1 := Tail.cells hw1; have s1 := hw1.size; (try simp at s1); (try have z1_0 : w.heap.size < w1.heap.size := (by omega)); clear s1) | ((with_reducible refine (c1 _ (H.out.later (by repeat (first | (with_reducible exact Below.refl _ _) | (with_reducible refine Below.setCell ?_ ?_ _) | (with_reducible refine Below.drew ?_) | (with_reducible refine Below.alloc ?_ ?_ _) | (with_reducible refine Below.trans ?_ (Below.mono hw1 ?_)) | (with_reducible exact hw1.size) | omega | (simp <;> omega) | (simp <;> (have s := hw1.size; omega)) | (have s0 := hw1.size; (try simp at s0); (try simp); omega)))) (HP.out.later (by repeat (first | (with_reducible exact Below.refl _ _) | (with_reducible refine Below.setCell ?_ ?_ _) | (with_reducible refine Below.drew ?_) | (with_reducible refine Below.alloc ?_ ?_ _) | (with_reducible refine Below.trans ?_ (Below.mono hw1 ?_)) | (with_reducible exact hw1.size) | omega | (simp <;> omega) | (simp <;> (have s := hw1.size; omega)) | (have s0 := hw1.size; (try simp at s0); (try simp); omega))))).mono ?_); rintro e w2 ⟨⟨g1, k1, m1, j1, rfl, hb1, hi1, -, -, -⟩, hw2⟩; have hc2 := Tail.cells hw2; have s2 := hw2.size; (try simp at s2); (try have z2_0 : w.heap.size < w2.heap.size := (by omega)); (try have z2_1 : w1.heap.size < w2.heap.size := (by omega)); clear s2; clear c1; have HB1 := Lib.hid hb1.h; have HI1 := Lib.hid hi1.h; clear hb1 hi1) | ((with_reducible refine (c2 _ _ _ _ _ (HB1.out.later (by repeat (first | (with_reducible exact Below.refl _ _) | (with_reducible refine Below.setCell ?_ ?_ _) | (with_reducible refine Below.drew ?_) | (with_reducible refine Below.alloc ?_ ?_ _) | omega | (simp <;> omega)))) (HI1.out.later (by repeat (first | (with_reducible exact Below.refl _ _) | (with_reducible refine Below.setCell ?_ ?_ _) | (with_reducible refine Below.drew ?_) | (with_reducible refine Below.alloc ?_ ?_ _) | omega | (simp <;> omega))))).mono ?_); rintro e w3 ⟨⟨g2, k2, rfl, hi2, -⟩, hw3⟩; have hc3 := Tail.cells hw3; have s3 := hw3.size; (try simp at s3); (try have z3_0 : w.heap.size < w3.heap.size := (by omega)); (try have z3_1 : w1.heap.size < w3.heap.size := (by omega)); (try have z3_2 : w2.heap.size < w3.heap.size := (by omega)); clear s3; clear c2; have HI2 := Lib.hid hi2; clear hi2) | ((with_reducible refine (c3 _ _ _ _ _ (HB1.out.later (by repeat (first | (with_reducible exact Below.refl _ _) | (with_reducible refine Below.setCell ?_ ?_ _) | (with_reducible refine Below.drew ?_) | (with_reducible refine Below.alloc ?_ ?_ _) | (with_reducible refine Below.trans ?_ (Below.mono hw3 ?_)) | (with_reducible exact hw3.size) | omega | (simp <;> omega) | (simp <;> (have s := hw3.size; omega)) | (have s0 := hw3.size; (try simp at s0); (try simp); omega)))) (HI2.out.later (by repeat (first | (with_reducible exact Below.refl _ _) | (with_reducible refine Below.setCell ?_ ?_ _) | (with_reducible refine Below.drew ?_) | (with_reducible refine Below.alloc ?_ ?_ _) | omega | (simp <;> omega))))).mono ?_); rintro e w4 ⟨⟨g3, k3, m3, j3, rfl, hb3, hi3, -, -, -⟩, hw4⟩; have hc4 := Tail.cells hw4; have s4 := hw4.size; (try simp at s4); (try have z4_0 : w.heap.size < w4.heap.size := (by omega)); (try have z4_1 : w1.heap.size < w4.heap.size := (by omega)); (try have z4_2 : w2.heap.size < w4.heap.size := (by omega)); (try have z4_3 : w3.heap.size < w4.heap.size := (by omega)); clear s4; clear c3; have HB3 := Lib.hid hb3.h; have HI3 := Lib.hid hi3.h; clear hb3 hi3) | ((with_reducible refine (c4 _ _ _ _ _ (HB3.out.later (by repeat (first | (with_reducible exact Below.refl _ _) | (with_reducible refine Below.setCell ?_ ?_ _) | (with_reducible refine Below.drew ?_) | (with_reducible refine Below.alloc ?_ ?_ _) | omega | (simp <;> omega)))) (HI3.out.later (by repeat (first | (with_reducible exact Below.refl _ _) | (with_reducible refine Below.setCell ?_ ?_ _) | (with_reducible refine Below.drew ?_) | (with_reducible refine Below.alloc ?_ ?_ _) | omega | (simp <;> omega))))).mono ?_); rintro e w5 ⟨⟨g4, k4, rfl, hi4, -⟩, hw5⟩; have hc5 := Tail.cells hw5; have s5 := hw5.size; (try simp at s5); (try have z5_0 : w.heap.size < w5.heap.size := (by omega)); (try have z5_1 : w1.heap.size < w5.heap.size := (by omega)); (try have z5_2 : w2.heap.size < w5.heap.size := (by omega)); (try have z5_3 : w3.heap.size < w5.heap.size := (by omega)); (try have z5_4 : w4.heap.size < w5.heap.size := (by omega)); clear s5; clear c4; have HI4 := Lib.hid hi4; clear hi4) | ((with_reducible refine (c5 _ _ _ (HB3.out.later (by repeat (first | (with_reducible exact Below.refl _ _) | (with_reducible refine Below.setCell ?_ ?_ _) | (with_reducible refine Below.drew ?_) | (with_reducible refine Below.alloc ?_ ?_ _) | (with_reducible refine Below.trans ?_ (Below.mono hw5 ?_)) | (with_reducible exact hw5.size) | omega | (simp <;> omega) | (simp <;> (have s := hw5.size; omega)) | (have s0 := hw5.size; (try simp at s0); (try simp); omega)))) (H.out.later (by repeat (first | (with_reducible exact Below.refl _ _) | (with_reducible refine Below.setCell ?_ ?_ _) | (with_reducible refine Below.drew ?_) | (with_reducible refine Below.alloc ?_ ?_ _) | (with_reducible refine Below.trans ?_ (Below.mono hw5 ?_)) | (with_reducible refine Below.trans ?_ (Below.mono hw4 ?_)) | (with_reducible refine Below.trans ?_ (Below.mono hw3 ?_)) | (with_reducible refine Below.trans ?_ (Below.mono hw2 ?_)) | (with_reducible refine Below.trans ?_ (Below.mono hw1 ?_)) | (with_reducible exact hw5.size) | (with_reducible exact hw4.size) | (with_reducible exact hw3.size) | (with_reducible exact hw2.size) | (with_reducible exact hw1.size) | omega | (simp <;> omega) | (simp <;> (have s := hw5.size; omega)) | (simp <;> (have s := hw4.size; omega)) | (simp <;> (have s := hw3.size; omega)) | (simp <;> (have s := hw2.size; omega)) | (simp <;> (have s := hw1.size; omega)) | (have s0 := hw5.size; (try simp at s0); have s1 := hw4.size; (try simp at s1); have s2 := hw3.size; (try simp at s2); have s3 := hw2.size; (try simp at s3); have s4 := hw1.size; (try simp at s4); (try simp); omega))))).mono ?_); rintro e w6 ⟨rfl, hw6⟩; have hc6 := Tail.cells hw6; have s6 := hw6.size; (try simp at s6); (try have z6_0 : w.heap.size < w6.heap.size := (by omega)); (try have z6_1 : w1.heap.size < w6.heap.size := (by omega)); (try have z6_2 : w2.heap.size < w6.heap.size := (by omega)); (try have z6_3 : w3.heap.size < w6.heap.size := (by omega)); (try have z6_4 : w4.heap.size < w6.heap.size := (by omega)); (try have z6_5 : w5.heap.size < w6.heap.size := (by omega)); clear s6; clear c5) | ((with_reducible refine (c6 _ _ _ (HI4.out.later (by repeat (first | (with_reducible exact Below.refl _ _) | (with_reducible refine Below.setCell ?_ ?_ _) | (with_reducible refine Below.drew ?_) | (with_reducible refine Below.alloc ?_ ?_ _) | (with_reducible refine Below.trans ?_ (Below.mono hw6 ?_)) | (with_reducible exact hw6.size) | omega | (simp <;> omega) | (simp <;> (have s := hw6.size; omega)) | (have s0 := hw6.size; (try simp at s0); (try simp); omega)))) (HP.out.later (by repeat (first | (with_reducible exact Below.refl _ _) | (with_reducible refine Below.setCell ?_ ?_ _) | (with_reducible refine Below.drew ?_) | (with_reducible refine Below.alloc ?_ ?_ _) | (with_reducible refine Below.trans ?_ (Below.mono hw6 ?_)) | (with_reducible refine Below.trans ?_ (Below.mono hw5 ?_)) | (with_reducible refine Below.trans ?_ (Below.mono hw4 ?_)) | (with_reducible refine Below.trans ?_ (Below.mono hw3 ?_)) | (with_reducible refine Below.trans ?_ (Below.mono hw2 ?_)) | (with_reducible refine Below.trans ?_ (Below.mono hw1 ?_)) | (with_reducible exact hw6.size) | (with_reducible exact hw5.size) | (with_reducible exact hw4.size) | (with_reducible exact hw3.size) | (with_reducible exact hw2.size) | (with_reducible exact hw1.size) | omega | (simp <;> omega) | (simp <;> (have s := hw6.size; omega)) | (simp <;> (have s := hw5.size; omega)) | (simp <;> (have s := hw4.size; omega)) | (simp <;> (have s := hw3.size; omega)) | (simp <;> (have s := hw2.size; omega)) | (simp <;> (have s := hw1.size; omega)) | (have s0 := hw6.size; (try simp at s0); have s1 := hw5.size; (try simp at s1); have s2 := hw4.size; (try simp at s2); have s3 := hw3.size; (try simp at s3); have s4 := hw2.size; (try simp at s4); have s5 := hw1.size; (try simp at s5); (try simp); omega))))).mono ?_); rintro e w7 ⟨rfl, hw7⟩; have hc7 := Tail.cells hw7; have s7 := hw7.size; (try simp at s7); (try have z7_0 : w.heap.size < w7.heap.size := (by omega)); (try have z7_1 : w1.heap.size < w7.heap.size := (by omega)); (try have z7_2 : w2.heap.size < w7.heap.size := (by omega)); (try have z7_3 : w3.heap.size < w7.heap.size := (by omega)); (try have z7_4 : w4.heap.size < w7.heap.size := (by omega)); (try have z7_5 : w5.heap.size < w7.heap.size := (by omega)); (try have z7_6 : w6.heap.size < w7.heap.size := (by omega)); clear s7; clear c6) | ((with_reducible refine (kn _).mono ?_); rintro e w8 ⟨rfl, hw8⟩; have hc8 := Tail.cells hw8; have s8 := hw8.size; (try simp at s8); (try have z8_0 : w.heap.size < w8.heap.size := (by omega)); (try have z8_1 : w1.heap.size < w8.heap.size := (by omega)); (try have z8_2 : w2.heap.size < w8.heap.size := (by omega)); (try have z8_3 : w3.heap.size < w8.heap.size := (by omega)); (try have z8_4 : w4.heap.size < w8.heap.size := (by omega)); (try have z8_5 : w5.heap.size < w8.heap.size := (by omega)); (try have z8_6 : w6.heap.size < w8.heap.size := (by omega)); (try have z8_7 : w7.heap.size < w8.heap.size := (by omega)); clear s8))
  go_ret
  exact ⟨rfl, by repeat (first | (with_reducible exact Below.refl _ _) | (with_reducible refine Below.setCell ?_ ?_ _) | (with_reducible refine Below.drew ?_) | (with_reducible refine Below.alloc ?_ ?_ _) | (with_reducible refine Below.trans ?_ (Below.mono hw8 ?_)) | (with_reducible refine Below.trans ?_ (Below.mono hw7 ?_)) | (with_reducible refine Below.trans ?_ (Below.mono hw6 ?_)) | (with_reducible refine Below.trans ?_ (Below.mono hw5 ?_)) | (with_reducible refine Below.trans ?_ (Below.mono hw4 ?_)) | (with_reducible refine Below.trans ?_ (Below.mono hw3 ?_)) | (with_reducible refine Below.trans ?_ (Below.mono hw2 ?_)) | (with_reducible refine Below.trans ?_ (Below.mono hw1 ?_)) | (with_reducible exact hw8.size) | (with_reducible exact hw7.size) | (with_reducible exact hw6.size) | (with_reducible exact hw5.size) | (with_reducible exact hw4.size) | (with_reducible exact hw3.size) | (with_reducible exact hw2.size) | (with_reducible exact hw1.size) | omega | (simp <;> omega) | (simp <;> (have s := hw8.size; omega)) | (simp <;> (have s := hw7.size; omega)) | (simp <;> (have s := hw6.size; omega)) | (simp <;> (have s := hw5.size; omega)) | (simp <;> (have s := hw4.size; omega)) | (simp <;> (have s := hw3.size; omega)) | (simp <;> (have s := hw2.size; omega)) | (simp <;> (have s := hw1.size; omega)) | (have s0 := hw8.size; (try simp at s0); have s1 := hw7.size; (try simp at s1); have s2 := hw6.size; (try simp at s2); have s3 := hw5.size; (try simp at s3); have s4 := hw4.size; (try simp at s4); have s5 := hw3.size; (try simp at s5); have s6 := hw2.size; (try simp at s6); have s7 := hw1.size; (try simp at s7); (try simp); omega))⟩
set_option maxHeartbeats 1600000 in
theorem pathReverses_err (a b c r0 r x q : Int) (ao po : Option Addr) (cap pc n : Nat) (L : List Q) (ns l : List Int) (w : World) (h : LiesO w ao L) (hp : LiesOI w po l) (hl : l.length = n * 3) (hr : numsR a b c L ns r0) (hv : vkR L.length n l r0 r) (hq : rnR r x q) (hlen : L.length ≤ 100) (hn : n ≤ 100) : Calls Try.prog 7 #[.agg #[.int .i64 a, .int .i64 b, .int .i64 c, .slice ao L.length cap], .slice po n pc, .int .i64 x] w fun e w' => e = .returned (.bool true) ∧ Below w.heap.size w w' := by
  have kn := known6_any
  have c0 := fun W : World => long6_any a b c ao po cap pc L.length n false W (.inl ⟨hlen, hn, rfl⟩)
  have c1 := fun (W : World) (h1 : LiesO W ao L) (h2 : LiesOI W po l) => run_bad a b c r0 r x q ao po cap pc n L ns l W h1 h2 hl hr hv hq (by omega)
  have hq0 : (q != 0) = true := by
    rcases hq with ⟨h0, rfl⟩ | ⟨-, -, rfl⟩
    · simpa using h0
    · rfl
  have H := Lib.hid h
  have HP := Lib.hid hp
  clear h hp hl hr hv hq
  go_enter Try.func7, Try.ntmps7
  go_wp2_with (first | ((with_reducible refine (c0 _).mono ?_); rintro e w1 ⟨rfl, hw1⟩; have hc1 := Tail.cells hw1; have s1 := hw1.size; (try simp at s1); (try have z1_0 : w.heap.size < w1.heap.size := (by omega)); clear s1) | ((with_reducible refine (c1 _ (H.out.later (by repeat (first | (with_reducible exact Below.refl _ _) | (with_reducible refine Below.setCell ?_ ?_ _) | (with_reducible refine Below.drew ?_) | (with_reducible refine Below.alloc ?_ ?_ _) | (with_reducible refine Below.trans ?_ (Below.mono hw1 ?_)) | (with_reducible exact hw1.size) | omega | (simp <;> omega) | (simp <;> (have s := hw1.size; omega)) | (have s0 := hw1.size; (try simp at s0); (try simp); omega)))) (HP.out.later (by repeat (first | (with_reducible exact Below.refl _ _) | (with_reducible refine Below.setCell ?_ ?_ _) | (with_reducible refine Below.drew ?_) | (with_reducible refine Below.alloc ?_ ?_ _) | (with_reducible refine Below.trans ?_ (Below.mono hw1 ?_)) | (with_reducible exact hw1.size) | omega | (simp <;> omega) | (simp <;> (have s := hw1.size; omega)) | (have s0 := hw1.size; (try simp at s0); (try simp); omega))))).mono ?_); rintro e w2 ⟨rfl, hw2⟩; have hc2 := Tail.cells hw2; have s2 := hw2.size; (try simp at s2); (try have z2_0 : w.heap.size < w2.heap.size := (by omega)); (try have z2_1 : w1.heap.size < w2.heap.size := (by omega)); clear s2) | ((with_reducible refine (kn _).mono ?_); rintro e w3 ⟨rfl, hw3⟩; have hc3 := Tail.cells hw3; have s3 := hw3.size; (try simp at s3); (try have z3_0 : w.heap.size < w3.heap.size := (by omega)); (try have z3_1 : w1.heap.size < w3.heap.size := (by omega)); (try have z3_2 : w2.heap.size < w3.heap.size := (by omega)); clear s3))
  go_ret
  exact ⟨rfl, by repeat (first | (with_reducible exact Below.refl _ _) | (with_reducible refine Below.setCell ?_ ?_ _) | (with_reducible refine Below.drew ?_) | (with_reducible refine Below.alloc ?_ ?_ _) | (with_reducible refine Below.trans ?_ (Below.mono hw3 ?_)) | (with_reducible refine Below.trans ?_ (Below.mono hw2 ?_)) | (with_reducible refine Below.trans ?_ (Below.mono hw1 ?_)) | (with_reducible exact hw3.size) | (with_reducible exact hw2.size) | (with_reducible exact hw1.size) | omega | (simp <;> omega) | (simp <;> (have s := hw3.size; omega)) | (simp <;> (have s := hw2.size; omega)) | (simp <;> (have s := hw1.size; omega)) | (have s0 := hw3.size; (try simp at s0); have s1 := hw2.size; (try simp at s1); have s2 := hw1.size; (try simp at s2); (try simp); omega))⟩
set_option maxHeartbeats 1600000 in
theorem pathReverses_long (a b c x : Int) (ao po : Option Addr) (cap pc n m : Nat) (w : World) (h : 100 < m ∨ 100 < n) : Calls Try.prog 7 #[.agg #[.int .i64 a, .int .i64 b, .int .i64 c, .slice ao m cap], .slice po n pc, .int .i64 x] w fun e w' => e = .returned (.bool true) ∧ Below w.heap.size w w' := by
  have kn := known6_any
  have c0 := fun W : World => long6_any a b c ao po cap pc m n true W (.inr ⟨h, rfl⟩)
  clear h
  go_enter Try.func7, Try.ntmps7
  go_wp2_with (first | ((with_reducible refine (c0 _).mono ?_); rintro e w1 ⟨rfl, hw1⟩; have hc1 := Tail.cells hw1; have s1 := hw1.size; (try simp at s1); (try have z1_0 : w.heap.size < w1.heap.size := (by omega)); clear s1) | ((with_reducible refine (kn _).mono ?_); rintro e w2 ⟨rfl, hw2⟩; have hc2 := Tail.cells hw2; have s2 := hw2.size; (try simp at s2); (try have z2_0 : w.heap.size < w2.heap.size := (by omega)); (try have z2_1 : w1.heap.size < w2.heap.size := (by omega)); clear s2))
  go_ret
  exact ⟨rfl, by repeat (first | (with_reducible exact Below.refl _ _) | (with_reducible refine Below.setCell ?_ ?_ _) | (with_reducible refine Below.drew ?_) | (with_reducible refine Below.alloc ?_ ?_ _) | (with_reducible refine Below.trans ?_ (Below.mono hw2 ?_)) | (with_reducible refine Below.trans ?_ (Below.mono hw1 ?_)) | (with_reducible exact hw2.size) | (with_reducible exact hw1.size) | omega | (simp <;> omega) | (simp <;> (have s := hw2.size; omega)) | (simp <;> (have s := hw1.size; omega)) | (have s0 := hw2.size; (try simp at s0); have s1 := hw1.size; (try simp at s1); (try simp); omega))⟩
theorem pathReverses_walk (a b c : Int) (ao : Option Addr) (L : List Q) (cap : Nat) (po : Option Addr) (l : List Int) (n pc : Nat) (x : Int) (w : World) (_ : L.length ≤ maxLen) (hm : LiesO w ao L) (hpl : l.length = n * 3) (_ : n ≤ pc) (_ : pc ≤ maxLen) (hp : LiesOI w po l) (_ : po = none → pc = 0) : Calls Try.prog 7 #[.agg #[.int .i64 a, .int .i64 b, .int .i64 c, .slice ao L.length cap], .slice po n pc, .int .i64 x] w fun e w' => e = .returned (.bool true) ∧ Below w.heap.size w w' := by
  by_cases h100 : L.length ≤ 100 ∧ n ≤ 100
  · obtain ⟨ns, r0, hr⟩ := numsR_ex a b c L
    obtain ⟨r, hv⟩ := vkR_ex L.length n l r0
    by_cases hok : r = 0 ∧ 0 ≤ x ∧ x ≤ 100
    · obtain ⟨rfl, hx0, hx1⟩ := hok
      obtain ⟨k, rfl⟩ := Int.eq_ofNat_of_zero_le hx0
      obtain rfl : r0 = 0 := by rcases hv with ⟨h1, h2⟩ | ⟨h1, -⟩ | ⟨h1, -⟩ <;> omega
      have hst := St_of hr hv hpl
      have hn0 : 0 < n := by have := hst.f.n; have := hst.e; obtain ⟨-, -, p3, -⟩ := mul_rng hst.f.z.a1 hst.f.z.a4 hst.f.z.b1 hst.f.z.b4 hst.f.z.c1 hst.f.z.c4; omega
      obtain ⟨bl, off, rfl, h2⟩ := fld_some (numsR_smR hr).1 hm
      obtain ⟨N, hN⟩ := Int.eq_ofNat_of_zero_le (show 0 ≤ a * b * c by obtain ⟨-, -, p3, -⟩ := mul_rng hst.f.z.a1 hst.f.z.a4 hst.f.z.b1 hst.f.z.b4 hst.f.z.c1 hst.f.z.c4; omega)
      rcases hp with rfl | ⟨pb, o, rfl, hp⟩
      · simp at hpl; omega
      · have := pathReverses_ok a b c bl off cap pb o pc n N k L l w h2 hp hst hN.symm (by omega)
        rw [← hst.e] at this
        rw [← hst.e]
        exact this
    · have hq : ∃ q, rnR r x q := by
        by_cases h0 : r = 0
        · exact ⟨1, .inr ⟨h0, fun h => hok ⟨h0, h⟩, rfl⟩⟩
        · exact ⟨r, .inl ⟨h0, rfl⟩⟩
      obtain ⟨q, hq⟩ := hq
      exact pathReverses_err a b c r0 r x q ao po cap pc n L ns l w hm hp hpl hr hv hq h100.1 h100.2
  · exact pathReverses_long a b c x ao po cap pc n L.length w (by omega)

/-! ### The statement of the law PathReverses, out of its walk -/
set_option maxRecDepth 100000 in
theorem pathReverses_lifted (os : Os) (started : os.Started) (H : Type) (enc : TypeId × Value → H) :
    ReturnsInHanded {} Try.checked os 7 .any (Rows.pathReversesSpec.pre6 enc Try.prog Try.f7 Rows.pathReversesRow.domain false) (Rows.pathReversesSpec.post enc Try.prog Try.f7 false true false false) := by
  refine returnsInHanded_of_change (C := Try.checked) own started (by kernel_rfl) Try.func7
    (ChangeSpec.witness6 (enc := enc) (C := Try.checked) false ⟨#[], #[.agg #[.int .i64 0, .int .i64 0, .int .i64 0, .slice none 0 0], .slice none 0 0, .int .i64 0], []⟩ 8 (by kernel_rfl) (by kernel_rfl) (by kernel_rfl) (by kernel_rfl)) ?_
  intro W base args ds gs before hval0 hW hcnd _
  have hval : ∀ (j : Nat) t v, Try.f7.params[j]? = some t → args[j]? = some v → Value.okWide Try.prog W .any base t v := hval0
  have hW' := hW
  obtain ⟨p, q, hA0, hV, rfl, hfz, hnd⟩ := hW
  have hA : DataW.TrodAll enc Try.prog W 0 (fun _ => true) true Try.f7.params.toList args.toList ds p := hA0
  rw [Try.params7] at hA hval
  obtain ⟨v0, vs0, d0, ds0, p0, q0, hargs, rfl, rfl, h0, r0⟩ := trodAll_cons hA
  obtain ⟨v1, vs1, d1, ds1, p1, q1, rfl, rfl, rfl, h1, r1⟩ := trodAll_cons r0
  obtain ⟨v2, vs2, d2, ds2, p2, q2, rfl, rfl, rfl, h2, r2⟩ := trodAll_cons r1
  obtain ⟨rfl, rfl, rfl⟩ := trodAll_nil r2
  obtain rfl : args = #[v0, v1, v2] := by cases args; simp_all
  obtain ⟨rfl, rfl⟩ := trodVars_none hV
  have k0 := h0
  have lt0 : ∀ x ∈ p0, x.block < W.heap.size := by obtain ⟨m, hm⟩ := k0; exact DataW.trod_lt m _ _ _ hm
  obtain ⟨x0, y0, z0, ao0, L0, cap0, rfl, hl0, hm0⟩ := open_field (hval 0 25 v0 rfl rfl) h0
  have k1 := h1
  have lt1 : ∀ x ∈ p1, x.block < W.heap.size := by obtain ⟨m, hm⟩ := k1; exact DataW.trod_lt m _ _ _ hm
  obtain ⟨po1, l1, n1, pc1, rfl, hkl1, hkn1, hkc1, hkm1, hkz1⟩ := open_kicks (hval 1 26 v1 rfl rfl) h1
  have k2 := h2
  have lt2 : ∀ x ∈ p2, x.block < W.heap.size := by obtain ⟨m, hm⟩ := k2; exact DataW.trod_lt m _ _ _ hm
  obtain ⟨x2, e2, -, -, -⟩ := open_int Try.underlying3 (hval 2 3 v2 rfl rfl) h2
  subst e2
  clear hA0 hval0
  refine (pathReverses_walk x0 y0 z0 ao0 L0 cap0 po1 l1 n1 pc1 x2 W hl0 hm0 hkl1 hkn1 hkc1 hkm1 hkz1).mono fun e W' ⟨he, bel⟩ => ?_
  subst he
  exact ⟨_, rfl, _, _, _, [], _, [], hW', trodAll_mk1 (shut_bool Try.underlying4 _), (trodAll_cons_mk (Below.trod laidOut (by kernel_rfl) (of_decide_eq_true (by kernel_rfl)) k0 bel lt0) (trodAll_cons_mk (Below.trod laidOut (by kernel_rfl) (of_decide_eq_true (by kernel_rfl)) k1 bel lt1) (trodAll_cons_mk (Below.trod laidOut (by kernel_rfl) (of_decide_eq_true (by kernel_rfl)) k2 bel lt2) trodAll_mk0))), rfl, bel.frame _, fun h => by cases h⟩

theorem pathReverses_jf9 : (Rows.pathReversesRow.inPlace == Try.prog.inPlace 7) = true := by kernel_rfl
theorem pathReverses_jf10 : (Rows.pathReversesRow.unfollowed == Try.prog.unfollowed 7) = true := by kernel_rfl
theorem pathReverses_jf11 : (Rows.pathReversesRow.recurses == Try.prog.recurses 7) = true := by kernel_rfl
theorem pathReverses_jf12 : (Rows.pathReversesRow.named == Try.prog.varsNamed 7) = true := by kernel_rfl
theorem pathReverses_facts : joinedFacts Try.prog 7 Try.f7 Rows.pathReversesSpec Rows.pathReversesRow = true := by
  unfold joinedFacts
  exact (band (band (band (band (band (band (band (band (band (band (band (band (band (band (band (band (band (band (band (band (band (band (band (band (band (band (band (band (band (band (band (by kernel_rfl) jf1) jf2) (by kernel_rfl)) (by kernel_rfl)) (by kernel_rfl)) jf6) (by kernel_rfl)) jf8) pathReverses_jf9) pathReverses_jf10) pathReverses_jf11) pathReverses_jf12) (by kernel_rfl)) (by kernel_rfl)) (by kernel_rfl)) (by kernel_rfl)) (by kernel_rfl)) (by kernel_rfl)) (by kernel_rfl)) (by kernel_rfl)) (by kernel_rfl)) (by kernel_rfl)) (by kernel_rfl)) jf24) jf25) jf26) jf27) (by kernel_rfl)) (by kernel_rfl)) (by kernel_rfl)) (by kernel_rfl))

theorem pathReverses_over : Rows.pathReversesRow.holds Try.pinned (OpenSpec.ofChange Rows.pathReversesSpec) :=
  OpenClaim.holds_of_wide 7 Try.f7 rfl rfl rfl rfl rfl rfl rfl ⟨rfl, rfl, rfl, rfl, rfl⟩ rfl rfl rfl rfl rfl (by kernel_rfl) Try.func7 pathReverses_facts
    (of_decide_eq_true (by kernel_rfl)) (by unfold Func.isWrapper; first | (rw [if_pos (by decide +kernel)]; kernel_rfl) | (rw [if_neg (by decide +kernel)]; exact ⟨rfl, rfl⟩))
    (fun os started H enc _ => pathReverses_lifted os started H enc)

theorem pathReverses_holds : Rows.PathReversesSaid := pathReverses_over
#print axioms pathReverses_holds

end Go.Proofs.Ytilbhcjnkmeecaa
