/- TorusBacks: the unit along a path from its end is the inverse, and that along the reduced path is the same, for all fields and paths.
Conditions: none. -/
import Derived.Test.YtoafojojhdcmfaaAlongC
import Derived.Test.YtoafojojhdcmfaaOpen4
import Derived.Test.YtoafojojhdcmfaaPathD
import Derived.Test.YtoafojojhdcmfaaJFacts
namespace Go.Proofs.Ytoafojojhdcmfaa
set_option linter.unusedVariables false
set_option linter.unusedSimpArgs false
set_option maxRecDepth 1000000
open Go.ChangeShapes Go.WideShapes Go.ChangeAt Go.RowKit
open Um Tm

set_option maxHeartbeats 800000 in
theorem torusBacks_longF (a b c s : Int) (fo ao : Option Addr) (n cap m pc : Nat) (w : World) (hn : 100 < n) : Calls Try.prog 5 #[.agg #[.int .i64 a, .int .i64 b, .int .i64 c, .slice fo n cap], .agg #[.int .i64 s, .slice ao m pc]] w fun e w' => e = .returned (.bool true) ∧ Below w.heap.size w w' := by
  have kn := known2_any
  have lg := fun W : World => long_any a b c fo cap n true W (.inr ⟨hn, rfl⟩)
  go_enter Try.func5, Try.ntmps5
  go_wp2_with (first | ((with_reducible refine (lg _).mono ?_); rintro e w1 ⟨rfl, hw1⟩; have hc1 := Tail.cells hw1; have s1 := hw1.size; (try simp at s1); (try have z1_0 : w.heap.size < w1.heap.size := (by omega)); (try have z1_1 : w.heap.size + 1 < w1.heap.size := (by omega)); clear s1) | ((with_reducible refine (kn _).mono ?_); rintro e w2 ⟨rfl, hw2⟩; have hc2 := Tail.cells hw2; have s2 := hw2.size; (try simp at s2); (try have z2_0 : w.heap.size < w2.heap.size := (by omega)); (try have z2_1 : w.heap.size + 1 < w2.heap.size := (by omega)); (try have z2_2 : w1.heap.size < w2.heap.size := (by omega)); clear s2))
  go_ret
  exact ⟨rfl, by repeat (first | (with_reducible exact Below.refl _ _) | (with_reducible refine Below.setCell ?_ ?_ _) | (with_reducible refine Below.drew ?_) | (with_reducible refine Below.alloc ?_ ?_ _) | (with_reducible refine Below.trans ?_ (Below.mono hw2 ?_)) | (with_reducible refine Below.trans ?_ (Below.mono hw1 ?_)) | (with_reducible exact hw2.size) | (with_reducible exact hw1.size) | omega | (simp <;> omega) | (simp <;> (have s := hw2.size; omega)) | (simp <;> (have s := hw1.size; omega)) | (have s0 := hw2.size; (try simp at s0); have s1 := hw1.size; (try simp at s1); (try simp); omega))⟩
set_option maxHeartbeats 800000 in
theorem torusBacks_longP (a b c s : Int) (fo ao : Option Addr) (n cap m pc : Nat) (w : World) (hn : n ≤ 100) (hm : 100 < m) : Calls Try.prog 5 #[.agg #[.int .i64 a, .int .i64 b, .int .i64 c, .slice fo n cap], .agg #[.int .i64 s, .slice ao m pc]] w fun e w' => e = .returned (.bool true) ∧ Below w.heap.size w w' := by
  have kn := known2_any
  have lg := fun W : World => long_any a b c fo cap n false W (.inl ⟨hn, rfl⟩)
  have hm' : (100 : Int) < (m : Int) := by omega
  go_enter Try.func5, Try.ntmps5
  go_wp2_with (first | ((with_reducible refine (lg _).mono ?_); rintro e w1 ⟨rfl, hw1⟩; have hc1 := Tail.cells hw1; have s1 := hw1.size; (try simp at s1); (try have z1_0 : w.heap.size < w1.heap.size := (by omega)); (try have z1_1 : w.heap.size + 1 < w1.heap.size := (by omega)); clear s1) | ((with_reducible refine (kn _).mono ?_); rintro e w2 ⟨rfl, hw2⟩; have hc2 := Tail.cells hw2; have s2 := hw2.size; (try simp at s2); (try have z2_0 : w.heap.size < w2.heap.size := (by omega)); (try have z2_1 : w.heap.size + 1 < w2.heap.size := (by omega)); (try have z2_2 : w1.heap.size < w2.heap.size := (by omega)); clear s2))
  go_ret
  exact ⟨rfl, by repeat (first | (with_reducible exact Below.refl _ _) | (with_reducible refine Below.setCell ?_ ?_ _) | (with_reducible refine Below.drew ?_) | (with_reducible refine Below.alloc ?_ ?_ _) | (with_reducible refine Below.trans ?_ (Below.mono hw2 ?_)) | (with_reducible refine Below.trans ?_ (Below.mono hw1 ?_)) | (with_reducible exact hw2.size) | (with_reducible exact hw1.size) | omega | (simp <;> omega) | (simp <;> (have s := hw2.size; omega)) | (simp <;> (have s := hw1.size; omega)) | (have s0 := hw2.size; (try simp at s0); have s1 := hw1.size; (try simp at s1); (try simp); omega))⟩
set_option maxHeartbeats 1600000 in
theorem torusBacks_bad (a b c s r : Int) (fo ao : Option Addr) (L : List Q) (l : List Int) (cap pc : Nat) (w : World) (hn : L.length ≤ 100) (hm : l.length ≤ 100) (hL : LiesO w fo L) (hl : LiesOI w ao l) (hr : asR a b c L s l r) (h0 : r ≠ 0) : Calls Try.prog 5 #[.agg #[.int .i64 a, .int .i64 b, .int .i64 c, .slice fo L.length cap], .agg #[.int .i64 s, .slice ao l.length pc]] w fun e w' => e = .returned (.bool true) ∧ Below w.heap.size w w' := by
  have kn := known2_any
  have lg := fun W : World => long_any a b c fo cap L.length false W (.inl ⟨hn, rfl⟩)
  have c1 := fun (W : World) (h1 : LiesO W fo L) (h2 : LiesOI W ao l) => alongO_bad a b c s r fo ao cap pc L l W h1 h2 hr h0 (by omega) (by omega)
  have hm' : ¬ (100 : Int) < (l.length : Int) := by omega
  have h0' : (r != 0) = true := by simpa using h0
  have H := Lib.hid hL
  have HP := Lib.hid hl
  clear hL hl hn hm hr h0
  go_enter Try.func5, Try.ntmps5
  go_wp2_with (first | ((with_reducible refine (lg _).mono ?_); rintro e w1 ⟨rfl, hw1⟩; have hc1 := Tail.cells hw1; have s1 := hw1.size; (try simp at s1); (try have z1_0 : w.heap.size < w1.heap.size := (by omega)); (try have z1_1 : w.heap.size + 1 < w1.heap.size := (by omega)); clear s1) | ((with_reducible refine (c1 _ (H.out.later (by repeat (first | (with_reducible exact Below.refl _ _) | (with_reducible refine Below.setCell ?_ ?_ _) | (with_reducible refine Below.drew ?_) | (with_reducible refine Below.alloc ?_ ?_ _) | (with_reducible refine Below.trans ?_ (Below.mono hw1 ?_)) | (with_reducible exact hw1.size) | omega | (simp <;> omega) | (simp <;> (have s := hw1.size; omega)) | (have s0 := hw1.size; (try simp at s0); (try simp); omega)))) (HP.out.later (by repeat (first | (with_reducible exact Below.refl _ _) | (with_reducible refine Below.setCell ?_ ?_ _) | (with_reducible refine Below.drew ?_) | (with_reducible refine Below.alloc ?_ ?_ _) | (with_reducible refine Below.trans ?_ (Below.mono hw1 ?_)) | (with_reducible exact hw1.size) | omega | (simp <;> omega) | (simp <;> (have s := hw1.size; omega)) | (have s0 := hw1.size; (try simp at s0); (try simp); omega))))).mono ?_); rintro e w2 ⟨rfl, hw2⟩; have hc2 := Tail.cells hw2; have s2 := hw2.size; (try simp at s2); (try have z2_0 : w.heap.size < w2.heap.size := (by omega)); (try have z2_1 : w.heap.size + 1 < w2.heap.size := (by omega)); (try have z2_2 : w1.heap.size < w2.heap.size := (by omega)); clear s2) | ((with_reducible refine (kn _).mono ?_); rintro e w3 ⟨rfl, hw3⟩; have hc3 := Tail.cells hw3; have s3 := hw3.size; (try simp at s3); (try have z3_0 : w.heap.size < w3.heap.size := (by omega)); (try have z3_1 : w.heap.size + 1 < w3.heap.size := (by omega)); (try have z3_2 : w1.heap.size < w3.heap.size := (by omega)); (try have z3_3 : w2.heap.size < w3.heap.size := (by omega)); clear s3))
  go_ret
  exact ⟨rfl, by repeat (first | (with_reducible exact Below.refl _ _) | (with_reducible refine Below.setCell ?_ ?_ _) | (with_reducible refine Below.drew ?_) | (with_reducible refine Below.alloc ?_ ?_ _) | (with_reducible refine Below.trans ?_ (Below.mono hw3 ?_)) | (with_reducible refine Below.trans ?_ (Below.mono hw2 ?_)) | (with_reducible refine Below.trans ?_ (Below.mono hw1 ?_)) | (with_reducible exact hw3.size) | (with_reducible exact hw2.size) | (with_reducible exact hw1.size) | omega | (simp <;> omega) | (simp <;> (have s := hw3.size; omega)) | (simp <;> (have s := hw2.size; omega)) | (simp <;> (have s := hw1.size; omega)) | (have s0 := hw3.size; (try simp at s0); have s1 := hw2.size; (try simp at s1); have s2 := hw1.size; (try simp at s2); (try simp); omega))⟩

/-- a path in a box -/
structure PBox (w : World) (b : Nat) (s : Int) (v : Value) : Prop where
  c0 : w.cell? ⟨b, 0, none⟩ = some (.int .i64 s)
  c1 : w.cell? ⟨b, 1, none⟩ = some v
  lt : b < w.heap.size
theorem PBox.later {w w1 : World} {b : Nat} {s : Int} {v : Value} (h : PBox w b s v) (hb : Below w.heap.size w w1) : PBox w1 b s v :=
  ⟨(hb.cell h.lt).trans h.c0, (hb.cell h.lt).trans h.c1, Nat.lt_of_lt_of_le h.lt hb.size⟩
theorem PBox.grown {w w1 : World} {b : Nat} {s : Int} {v : Value} {row : Option Nat} (h : PBox w b s v) (hg : w.grownBy w1 row) (hne : some b ≠ row) : PBox w1 b s v :=
  ⟨hg.cell h.c0 hne, hg.cell h.c1 hne, Nat.lt_of_lt_of_le h.lt hg.size⟩
theorem asR_mk {a b c s : Int} {L : List Q} {l : List Int} (hF : Fl a b c L) (h0 : 0 ≤ s) (h1 : s < a * b * c) (hs : ∀ t ∈ l, IsStep t) (h8 : l.length ≤ 8) : asR a b c L s l 0 := .inr ⟨Fl_fldR hF, .inr ⟨hF.z, h0, h1, .inr (.inr ⟨h8, hs, rfl⟩)⟩⟩
theorem walkOS_ok (a b c s : Int) (ao : Option Addr) (cap : Nat) (l : List Int) (w : World) (hz : Sz a b c) (h0 : 0 ≤ s) (h1 : s < a * b * c) (h : LiesOI w ao l) (hs : ∀ t ∈ l, IsStep t) (h8 : l.length ≤ 8) : Calls Try.prog 29 #[.agg #[.int .i64 a, .int .i64 b, .int .i64 c], .int .i64 s, .slice ao l.length cap] w fun e w' => ∃ gb go k, e = .returned (.tuple #[.slice (some ⟨gb, go, none⟩) (l.length + 1) k, .int .i64 0]) ∧ LiesI w' gb go (wl a b c s l) ∧ Below w.heap.size w w' :=
  (walkO_ok a b c s ao cap l w hz h0 h1 h hs h8).mono fun e w' ⟨ao', k, he, hl, hb⟩ => by
    have hlen := wl_len a b c s l
    rcases hl with hl | ⟨gb, go, hao, hl⟩
    · rw [hl] at hlen; simp at hlen
    · exact ⟨gb, go, k, by rw [he, hao, hlen], hl, hb⟩

set_option maxHeartbeats 6400000 in
theorem torusBacks_ok (a b c s : Int) (bl off cap pc : Nat) (ao : Option Addr) (L : List Q) (l : List Int) (w : World) (hn : L.length ≤ 100) (hL : Lies w bl off L) (hl : LiesOI w ao l) (hF : Fl a b c L) (h0 : 0 ≤ s) (h1 : s < a * b * c) (hs : ∀ t ∈ l, IsStep t) (h8 : l.length ≤ 8) : Calls Try.prog 5 #[.agg #[.int .i64 a, .int .i64 b, .int .i64 c, .slice (some ⟨bl, off, none⟩) L.length cap], .agg #[.int .i64 s, .slice ao l.length pc]] w fun e w' => e = .returned (.bool true) ∧ Below w.heap.size w w' := by
  have kn := known2_any
  have lg := fun W : World => long_any a b c (some ⟨bl, off, none⟩) cap L.length false W (.inl ⟨hn, rfl⟩)
  have hen := en_rng hF.z h0 h1 l
  have hV := (hF.al s l h0 h1 hs h8).2
  have cA := fun (W : World) (h1' : Lies W bl off L) (h2 : LiesOI W ao l) => alongO_ok a b c s bl off ao cap pc L l W h1' h2 (asR_mk hF h0 h1 hs h8)
  have cW := fun (W : World) (h : LiesOI W ao l) => walkOS_ok a b c s ao pc l W hF.z h0 h1 h hs h8
  have cB := fun (W : World) (h : LiesOI W ao l) => back_ok ao pc l W h hs h8
  have cR := fun (W : World) (h : LiesOI W ao l) => reduce_ok ao pc l W h hs h8
  have cA2 := fun (a2 : Option Addr) (k2 : Nat) (W : World) (h1' : Lies W bl off L) (h2 : LiesOI W a2 (opp l)) => alongO_ok a b c (en a b c s l) bl off a2 cap k2 L (opp l) W h1' h2 (asR_mk hF hen.1 hen.2 (opp_steps hs) (by rw [opp_len]; exact h8))
  have cA3 := fun (a2 : Option Addr) (k2 : Nat) (W : World) (h1' : Lies W bl off L) (h2 : LiesOI W a2 (red l)) => alongO_ok a b c s bl off a2 cap k2 L (red l) W h1' h2 (asR_mk hF h0 h1 (red_steps hs) (Nat.le_trans (red_len l) h8))
  rw [al_opp hF h0 h1 l hs] at cA2
  rw [(al_red hF h0 h1 l hs).1] at cA3
  have cI := fun W : World => inv_ok (al a b c L s l) W hV
  have hwl := wl_last a b c s l
  have HWL := Lib.hid hwl
  have H := Lib.hid hL
  have HP := Lib.hid hl
  have hm' : ¬ (100 : Int) < (l.length : Int) := by omega
  have hl8 : (l.length : Int) ≤ 8 := by omega
  clear hL hl hn hF h0 h1 hs h8 hV hen hwl
  generalize al a b c L s l = u at *
  generalize en a b c s l = sn at *
  generalize wl a b c s l = WW at *
  obtain ⟨OP, hOP⟩ : ∃ OP, OP = opp l := ⟨_, rfl⟩
  obtain ⟨RD, hRD⟩ : ∃ RD, RD = red l := ⟨_, rfl⟩
  rw [← hOP] at cB cA2
  rw [← hRD] at cR cA3
  have q1 : ∀ W, Sem.run Try.prog (Op.equalIn 10000 29 (.agg #[.int .i64 u.a, .int .i64 u.b, .int .i64 u.c, .int .i64 u.d, .int .i64 u.n]) (.agg #[.int .i64 u.a, .int .i64 u.b, .int .i64 u.c, .int .i64 u.d, .int .i64 u.n])) W = .ok true W := fun W => by simpa using eqU u u W
  have q2 : ∀ W, Sem.run Try.prog (Op.equalIn 10000 29 (.agg #[.int .i64 (bar u).a, .int .i64 (bar u).b, .int .i64 (bar u).c, .int .i64 (bar u).d, .int .i64 (bar u).n]) (.agg #[.int .i64 (bar u).a, .int .i64 (bar u).b, .int .i64 (bar u).c, .int .i64 (bar u).d, .int .i64 (bar u).n])) W = .ok true W := fun W => by simpa using eqU (bar u) (bar u) W
  clear hOP hRD
  generalize bar u = v at *
  go_enter Try.func5, Try.ntmps5
  go_wp2_with (first | ((with_reducible refine (lg _).mono ?_); rintro e w1 ⟨rfl, hw1⟩; have hc1 := Tail.cells hw1; have s1 := hw1.size; (try simp at s1); (try have z1_0 : w.heap.size < w1.heap.size := (by omega)); (try have z1_1 : w.heap.size + 1 < w1.heap.size := (by omega)); clear s1) | ((with_reducible refine (cA _ (H.out.later (by repeat (first | (with_reducible exact Below.refl _ _) | (with_reducible refine Below.setCell ?_ ?_ _) | (with_reducible refine Below.drew ?_) | (with_reducible refine Below.alloc ?_ ?_ _) | (with_reducible refine Below.trans ?_ (Below.mono hw1 ?_)) | (with_reducible exact hw1.size) | omega | (simp <;> omega) | (simp <;> (have s := hw1.size; omega)) | (have s0 := hw1.size; (try simp at s0); (try simp); omega)))) (HP.out.later (by repeat (first | (with_reducible exact Below.refl _ _) | (with_reducible refine Below.setCell ?_ ?_ _) | (with_reducible refine Below.drew ?_) | (with_reducible refine Below.alloc ?_ ?_ _) | (with_reducible refine Below.trans ?_ (Below.mono hw1 ?_)) | (with_reducible exact hw1.size) | omega | (simp <;> omega) | (simp <;> (have s := hw1.size; omega)) | (have s0 := hw1.size; (try simp at s0); (try simp); omega))))).mono ?_); rintro e w2 ⟨rfl, hw2⟩; have hc2 := Tail.cells hw2; have s2 := hw2.size; (try simp at s2); (try have z2_0 : w.heap.size < w2.heap.size := (by omega)); (try have z2_1 : w.heap.size + 1 < w2.heap.size := (by omega)); (try have z2_2 : w1.heap.size < w2.heap.size := (by omega)); clear s2; clear cA) | ((with_reducible refine (cW _ (HP.out.later (by repeat (first | (with_reducible exact Below.refl _ _) | (with_reducible refine Below.setCell ?_ ?_ _) | (with_reducible refine Below.drew ?_) | (with_reducible refine Below.alloc ?_ ?_ _) | (with_reducible refine Below.trans ?_ (Below.mono hw2 ?_)) | (with_reducible refine Below.trans ?_ (Below.mono hw1 ?_)) | (with_reducible exact hw2.size) | (with_reducible exact hw1.size) | omega | (simp <;> omega) | (simp <;> (have s := hw2.size; omega)) | (simp <;> (have s := hw1.size; omega)) | (have s0 := hw2.size; (try simp at s0); have s1 := hw1.size; (try simp at s1); (try simp); omega))))).mono ?_); rintro e w3 ⟨gb, go, kW, rfl, hW, hw3⟩; have hc3 := Tail.cells hw3; have s3 := hw3.size; (try simp at s3); (try have z3_0 : w.heap.size < w3.heap.size := (by omega)); (try have z3_1 : w.heap.size + 1 < w3.heap.size := (by omega)); (try have z3_2 : w1.heap.size < w3.heap.size := (by omega)); (try have z3_3 : w2.heap.size < w3.heap.size := (by omega)); clear s3; have HW := Lib.hid hW; clear hW cW) | ((with_reducible refine (cB _ (HP.out.later (by repeat (first | (with_reducible exact Below.refl _ _) | (with_reducible refine Below.setCell ?_ ?_ _) | (with_reducible refine Below.drew ?_) | (with_reducible refine Below.alloc ?_ ?_ _) | (with_reducible refine Below.trans ?_ (Below.mono hw3 ?_)) | (with_reducible refine Below.trans ?_ (Below.mono hw2 ?_)) | (with_reducible refine Below.trans ?_ (Below.mono hw1 ?_)) | (with_reducible exact hw3.size) | (with_reducible exact hw2.size) | (with_reducible exact hw1.size) | omega | (simp <;> omega) | (simp <;> (have s := hw3.size; omega)) | (simp <;> (have s := hw2.size; omega)) | (simp <;> (have s := hw1.size; omega)) | (have s0 := hw3.size; (try simp at s0); have s1 := hw2.size; (try simp at s1); have s2 := hw1.size; (try simp at s2); (try simp); omega))))).mono ?_); rintro e w4 ⟨a4, k4, rfl, hB, hw4⟩; have hc4 := Tail.cells hw4; have s4 := hw4.size; (try simp at s4); (try have z4_0 : w.heap.size < w4.heap.size := (by omega)); (try have z4_1 : w.heap.size + 1 < w4.heap.size := (by omega)); (try have z4_2 : w1.heap.size < w4.heap.size := (by omega)); (try have z4_3 : w2.heap.size < w4.heap.size := (by omega)); (try have z4_4 : w3.heap.size < w4.heap.size := (by omega)); clear s4; have HB := Lib.hid hB; clear hB cB) | ((with_reducible refine (cR _ (HP.out.later (by repeat (first | (with_reducible exact Below.refl _ _) | (with_reducible refine Below.setCell ?_ ?_ _) | (with_reducible refine Below.drew ?_) | (with_reducible refine Below.alloc ?_ ?_ _) | (with_reducible refine Below.trans ?_ (Below.mono hw4 ?_)) | (with_reducible refine Below.trans ?_ (Below.mono hw3 ?_)) | (with_reducible refine Below.trans ?_ (Below.mono hw2 ?_)) | (with_reducible refine Below.trans ?_ (Below.mono hw1 ?_)) | (with_reducible exact hw4.size) | (with_reducible exact hw3.size) | (with_reducible exact hw2.size) | (with_reducible exact hw1.size) | omega | (simp <;> omega) | (simp <;> (have s := hw4.size; omega)) | (simp <;> (have s := hw3.size; omega)) | (simp <;> (have s := hw2.size; omega)) | (simp <;> (have s := hw1.size; omega)) | (have s0 := hw4.size; (try simp at s0); have s1 := hw3.size; (try simp at s1); have s2 := hw2.size; (try simp at s2); have s3 := hw1.size; (try simp at s3); (try simp); omega))))).mono ?_); rintro e w5 ⟨a5, k5, rfl, hR, hw5⟩; have hc5 := Tail.cells hw5; have s5 := hw5.size; (try simp at s5); (try have z5_0 : w.heap.size < w5.heap.size := (by omega)); (try have z5_1 : w.heap.size + 1 < w5.heap.size := (by omega)); (try have z5_2 : w1.heap.size < w5.heap.size := (by omega)); (try have z5_3 : w2.heap.size < w5.heap.size := (by omega)); (try have z5_4 : w3.heap.size < w5.heap.size := (by omega)); (try have z5_5 : w4.heap.size < w5.heap.size := (by omega)); clear s5; have HRR := Lib.hid hR; clear hR cR))
  have AL : Below w2.heap.size w2 (w2.alloc (.cells #[.int .i64 u.a, .int .i64 u.b, .int .i64 u.c, .int .i64 u.d, .int .i64 u.n] 29)) := (Below.refl _ _).alloc (Nat.le_refl _) _
  have F5 := ((((((⟨by simp [go_sem], by simp [go_sem], by simp [go_sem], by simp [go_sem], by simp <;> omega⟩ : FBox ((w.alloc (.cells #[.int .i64 a, .int .i64 b, .int .i64 c, .slice (some ⟨bl, off, none⟩) L.length cap] 25)).alloc (.cells #[.int .i64 s, .slice ao l.length pc] 42)) w.heap.size a b c (.slice (some ⟨bl, off, none⟩) L.length cap)).later hw1).later hw2).later AL).later hw3).later hw4).later hw5
  have P5 := ((((((⟨by simp [go_sem], by simp [go_sem], by simp⟩ : PBox ((w.alloc (.cells #[.int .i64 a, .int .i64 b, .int .i64 c, .slice (some ⟨bl, off, none⟩) L.length cap] 25)).alloc (.cells #[.int .i64 s, .slice ao l.length pc] 42)) (w.heap.size + 1) s (.slice ao l.length pc)).later hw1).later hw2).later AL).later hw3).later hw4).later hw5
  have U5 := (((⟨by simp [go_sem], by simp [go_sem], by simp [go_sem], by simp [go_sem], by simp [go_sem], fun j => by simp [go_sem], by simp⟩ : UBox (w2.alloc (.cells #[.int .i64 u.a, .int .i64 u.b, .int .i64 u.c, .int .i64 u.d, .int .i64 u.n] 29)) w2.heap.size u).later hw3).later hw4).later hw5
  have W5 := (HW.out.later hw4).later hw5
  have x5 := W5 l.length _ HWL.out
  have lbx : gb < w5.heap.size := World.block_lt_of_cell? w5 _ x5
  have hb5 : Below w.heap.size w w5 := by repeat (first | (with_reducible exact Below.refl _ _) | (with_reducible refine Below.setCell ?_ ?_ _) | (with_reducible refine Below.drew ?_) | (with_reducible refine Below.alloc ?_ ?_ _) | (with_reducible refine Below.trans ?_ (Below.mono hw5 ?_)) | (with_reducible refine Below.trans ?_ (Below.mono hw4 ?_)) | (with_reducible refine Below.trans ?_ (Below.mono hw3 ?_)) | (with_reducible refine Below.trans ?_ (Below.mono hw2 ?_)) | (with_reducible refine Below.trans ?_ (Below.mono hw1 ?_)) | (with_reducible exact hw5.size) | (with_reducible exact hw4.size) | (with_reducible exact hw3.size) | (with_reducible exact hw2.size) | (with_reducible exact hw1.size) | omega | (simp <;> omega) | (simp <;> (have s := hw5.size; omega)) | (simp <;> (have s := hw4.size; omega)) | (simp <;> (have s := hw3.size; omega)) | (simp <;> (have s := hw2.size; omega)) | (simp <;> (have s := hw1.size; omega)) | (have s0 := hw5.size; (try simp at s0); have s1 := hw4.size; (try simp at s1); have s2 := hw3.size; (try simp at s2); have s3 := hw2.size; (try simp at s3); have s4 := hw1.size; (try simp at s4); (try simp); omega))
  have LL := H.out.later hb5
  have B5 := HB.out.later hw5
  have R5 := HRR.out
  have hu2 : w.heap.size + 2 ≤ w2.heap.size := by have := hw1.size; have := hw2.size; simp at *; omega
  have FF := Lib.hid F5
  have PP := Lib.hid P5
  have UU := Lib.hid U5
  have BBB := Lib.hid B5
  have RRR := Lib.hid R5
  have j0 : (0 : Int) ≤ (l.length : Int) := by omega
  obtain ⟨f0, f1, f2, f3, fl⟩ := F5
  clear P5 U5 B5 R5 W5 HB HRR HW hw1 hw2 hw3 hw4 hw5 AL hc1 hc2 hc3 hc4 hc5
  generalize w2.heap.size = ub at *
  apply Mid.region_mids 11 [.inr (.int .i64 0), .inl (.cells #[.int .i64 0, .int .i64 0, .int .i64 0, .int .i64 0, .int .i64 0] 29)] [] (by kernel_rfl) (by kernel_rfl) (by simp) (by simp [Mid.lates]) (by kernel_rfl) (by kernel_rfl) (fun c a d v w h => by cases d <;> exact h)
  · intro B hB
    have kc := @Tail.cell_re
    have hcB := Tail.cells hB
    have zB0 := Nat.lt_of_lt_of_le lbx hB.size
    have zB2 := Nat.lt_of_lt_of_le fl hB.size
    have LB := LL.later hB
    have BB2 := BBB.out.later hB
    simp only [List.take_succ_cons, List.take_zero]
    repeat (go_big_quiet_step (first | (with_reducible exact Calls.regrown_of (cA2 _ _ _ (lies_re LB _ _) (liesOI_re BB2 _ _)))))
    exact wpQuiet_nil rfl
  · intro w6 hw6
    refine ⟨_, rfl, .inl ⟨rfl, fun W => by simp [go_sem]⟩, _, rfl, fun a W => ⟨rfl, by simp [go_sem]⟩, fun cc w7 _ hcb hw7' hx7 => ?_⟩
    have hw7 : Below w5.heap.size w5 w7 := hw6.trans (hw7'.mono hw6.size)
    clear hw6 hw7'
    show wpList _ _ _ (List.drop 13 _) _ _
    simp only [List.drop_succ_cons, List.drop_zero]
    have k0 := Wide.cell_at hx7 0 _ rfl
    have k1 := Wide.cell_at hx7 1 _ rfl
    have k2 := Wide.cell_at hx7 2 _ rfl
    have k3 := Wide.cell_at hx7 3 _ rfl
    have k4 := Wide.cell_at hx7 4 _ rfl
    have fz := Wide.free_at hx7
    have zc : cc < w7.heap.size := World.block_lt_of_cell? w7 _ k0
    have hcg : w5.heap.size ≤ cc := hcb
    have hul := UU.out.lt
    have hpl := PP.out.lt
    have V7 : UBox w7 cc zero := ⟨k0, k1, k2, k3, k4, fz, zc⟩
    have G1 := grown_setCells cc (uc v) 0 w7
    have F8 := (FF.out.later hw7).grown G1 (by simp; omega)
    have P8 := (PP.out.later hw7).grown G1 (by simp; omega)
    have U8 := (UU.out.later hw7).grown G1 (by simp; omega)
    have hb7 : Below w.heap.size w w7 := by repeat (first | (with_reducible exact Below.refl _ _) | (with_reducible refine Below.setCell ?_ ?_ _) | (with_reducible refine Below.drew ?_) | (with_reducible refine Below.alloc ?_ ?_ _) | (with_reducible refine Below.trans ?_ (Below.mono hw7 ?_)) | (with_reducible refine Below.trans ?_ (Below.mono hb5 ?_)) | (with_reducible exact hw7.size) | (with_reducible exact hb5.size) | omega | (simp <;> omega) | (simp <;> (have s := hw7.size; omega)) | (simp <;> (have s := hb5.size; omega)) | (have s0 := hw7.size; (try simp at s0); have s1 := hb5.size; (try simp at s1); (try simp); omega))
    have hb8 := hb7.grown G1 hb7.size (fun j hj => by simp at hj; omega)
    have LV : LBox w7 cc [zero] := ⟨fun i x hx => by
      have hi : i = 0 := by have := (List.getElem?_eq_some_iff.1 hx).1; simp at this; omega
      subst hi
      simp at hx
      subst hx
      exact ⟨k0, k1, k2, k3, k4⟩, fz, zc⟩
    have LV8 := LV.put 0 (by simp) v
    have V8 : UBox (w7.setCells cc 0 (uc v)) cc v := by
      obtain ⟨e0, e1, e2, e3, e4⟩ := LV8.h 0 v rfl
      exact ⟨e0, e1, e2, e3, e4, LV8.free, LV8.lt⟩
    have LL8 := H.out.later hb8
    have R8 : LiesOI (w7.setCells cc 0 (uc v)) a5 RD := by
      rcases RRR.out with h | ⟨b9, o9, h, hl9⟩
      · exact .inl h
      · refine .inr ⟨b9, o9, h, fun i x hx => ?_⟩
        have g9 := hl9 i x hx
        have lt9 : b9 < w5.heap.size := World.block_lt_of_cell? w5 _ g9
        exact G1.cell ((hw7.cell lt9).trans g9) (by simp; omega)
    have C8 := cA3 a5 k5 _ LL8 R8
    have hfl := F8.lt
    have FF8 := Lib.hid F8
    have PP8 := Lib.hid P8
    have UU8 := Lib.hid U8
    have VV8 := Lib.hid V8
    have hne1 : ¬ cc = w.heap.size := by omega
    have hne2 : ¬ w.heap.size = cc := by omega
    have hne3 : ¬ cc = w.heap.size + 1 := by omega
    have hne4 : ¬ w.heap.size + 1 = cc := by omega
    obtain ⟨f0, f1, f2, f3, fl7⟩ := FF.out.later hw7
    obtain ⟨p0, p1, pl7⟩ := PP.out.later hw7
    clear V7 F8 P8 U8 V8 LV LV8 LL8 R8 cA3 cA2 LL RRR BBB
    go_wp2_with fail
    refine C8.mono ?_
    rintro e w9 ⟨rfl, hw9⟩
    have hb9 : Below w.heap.size w w9 := hb8.trans (hw9.mono hb8.size)
    have U9 := UU8.out.later hw9
    have V9 := VV8.out.later hw9
    have UU9 := Lib.hid U9
    have VV9 := Lib.hid V9
    obtain ⟨u0, u1, u2, u3, u4, uf, ul⟩ := U9
    clear V9 f0 f1 f2 f3 fl7 p0 p1 pl7 k0 k1 k2 k3 k4 fz zc hw9 hb8 G1 C8
    go_wp2_with (first | ((with_reducible refine (cI _).mono ?_); clear cI; rintro e w10 ⟨rfl, hw10⟩; clear u0 u1 u2 u3 u4 uf ul; obtain ⟨u0, u1, u2, u3, u4, uf, ul⟩ := (UU9.out.later ((Below.refl _ _).alloc (Nat.le_refl _) _)).later hw10; obtain ⟨v0, v1, v2, v3, v4, vf, vl⟩ := (VV9.out.later ((Below.refl _ _).alloc (Nat.le_refl _) _)).later hw10; obtain ⟨x0, x1, x2, x3, x4, xf, xl⟩ := (⟨by simp [go_sem], by simp [go_sem], by simp [go_sem], by simp [go_sem], by simp [go_sem], fun j => by simp [go_sem], by simp⟩ : UBox (w9.alloc (.cells #[.int .i64 u.a, .int .i64 u.b, .int .i64 u.c, .int .i64 u.d, .int .i64 u.n] 29)) w9.heap.size u).later hw10) | ((with_reducible refine (kn _).mono ?_); rintro e w11 ⟨rfl, hw11⟩))
    go_ret
    exact ⟨rfl, by repeat (first | (with_reducible exact Below.refl _ _) | (with_reducible refine Below.setCell ?_ ?_ _) | (with_reducible refine Below.drew ?_) | (with_reducible refine Below.alloc ?_ ?_ _) | (with_reducible refine Below.trans ?_ (Below.mono hw11 ?_)) | (with_reducible refine Below.trans ?_ (Below.mono hw10 ?_)) | (with_reducible refine Below.trans ?_ (Below.mono hb9 ?_)) | (with_reducible exact hw11.size) | (with_reducible exact hw10.size) | (with_reducible exact hb9.size) | omega | (simp <;> omega) | (simp <;> (have s := hw11.size; omega)) | (simp <;> (have s := hw10.size; omega)) | (simp <;> (have s := hb9.size; omega)) | (have s0 := hw11.size; (try simp at s0); have s1 := hw10.size; (try simp at s1); have s2 := hb9.size; (try simp at s2); (try simp); omega))⟩

theorem torusBacks_walk (a b c : Int) (fo : Option Addr) (L : List Q) (cap : Nat) (s : Int) (ao : Option Addr) (l : List Int) (pc : Nat) (w : World) (hc : L.length ≤ maxLen) (hL : LiesO w fo L) (hlc : l.length ≤ pc) (hpc : pc ≤ maxLen) (hl : LiesOI w ao l) : Calls Try.prog 5 #[.agg #[.int .i64 a, .int .i64 b, .int .i64 c, .slice fo L.length cap], .agg #[.int .i64 s, .slice ao l.length pc]] w fun e w' => e = .returned (.bool true) ∧ Below w.heap.size w w' := by
  by_cases hn : 100 < L.length
  · exact torusBacks_longF a b c s fo ao _ cap _ pc w hn
  · by_cases hm : 100 < l.length
    · exact torusBacks_longP a b c s fo ao _ cap _ pc w (by omega) hm
    · obtain ⟨r, hr⟩ := asR_ex a b c L s l
      by_cases h0 : r = 0
      · subst h0
        obtain ⟨hF, h0, h1, hs, h8⟩ := asR_ok hr
        obtain ⟨bl, off, rfl, hli⟩ := fld_some (Fl_fldR hF) hL
        exact torusBacks_ok a b c s bl off cap pc ao L l w (by omega) hli hl hF h0 h1 hs h8
      · exact torusBacks_bad a b c s r fo ao L l cap pc w (by omega) (by omega) hL hl hr h0

/-! ### The statement of the law TorusBacks, out of its walk -/
set_option maxRecDepth 100000 in
theorem torusBacks_lifted (os : Os) (started : os.Started) (H : Type) (enc : TypeId × Value → H) :
    ReturnsInHanded {} Try.checked os 5 .any (Rows.torusBacksSpec.pre6 enc Try.prog Try.f5 Rows.torusBacksRow.domain false) (Rows.torusBacksSpec.post enc Try.prog Try.f5 false true false false) := by
  refine returnsInHanded_of_change (C := Try.checked) own started (by kernel_rfl) Try.func5
    (ChangeSpec.witness6 (enc := enc) (C := Try.checked) false ⟨#[], #[.agg #[.int .i64 0, .int .i64 0, .int .i64 0, .slice none 0 0], .agg #[.int .i64 0, .slice none 0 0]], []⟩ 8 (by kernel_rfl) (by kernel_rfl) (by kernel_rfl) (by kernel_rfl)) ?_
  intro W base args ds gs before hval0 hW hcnd _
  have hval : ∀ (j : Nat) t v, Try.f5.params[j]? = some t → args[j]? = some v → Value.okWide Try.prog W .any base t v := hval0
  have hW' := hW
  obtain ⟨p, q, hA0, hV, rfl, hfz, hnd⟩ := hW
  have hA : DataW.TrodAll enc Try.prog W 0 (fun _ => true) true Try.f5.params.toList args.toList ds p := hA0
  rw [Try.params5] at hA hval
  obtain ⟨v0, vs0, d0, ds0, p0, q0, hargs, rfl, rfl, h0, r0⟩ := trodAll_cons hA
  obtain ⟨v1, vs1, d1, ds1, p1, q1, rfl, rfl, rfl, h1, r1⟩ := trodAll_cons r0
  obtain ⟨rfl, rfl, rfl⟩ := trodAll_nil r1
  obtain rfl : args = #[v0, v1] := by cases args; simp_all
  obtain ⟨rfl, rfl⟩ := trodVars_none hV
  have k0 := h0
  have lt0 : ∀ x ∈ p0, x.block < W.heap.size := by obtain ⟨m, hm⟩ := k0; exact DataW.trod_lt m _ _ _ hm
  obtain ⟨x0, y0, z0, ao0, L0, cap0, rfl, hl0, hm0⟩ := open_field (hval 0 25 v0 rfl rfl) h0
  have k1 := h1
  have lt1 : ∀ x ∈ p1, x.block < W.heap.size := by obtain ⟨m, hm⟩ := k1; exact DataW.trod_lt m _ _ _ hm
  obtain ⟨s1, ao1, l1, cap1, rfl, hl1, hc1, hm1⟩ := open_path (hval 1 42 v1 rfl rfl) h1
  clear hA0 hval0
  refine (torusBacks_walk x0 y0 z0 ao0 L0 cap0 s1 ao1 l1 cap1 W hl0 hm0 hl1 hc1 hm1).mono fun e W' ⟨he, bel⟩ => ?_
  subst he
  exact ⟨_, rfl, _, _, _, [], _, [], hW', trodAll_mk1 (shut_bool Try.underlying4 _), (trodAll_cons_mk (Below.trod laidOut (by kernel_rfl) (of_decide_eq_true (by kernel_rfl)) k0 bel lt0) (trodAll_cons_mk (Below.trod laidOut (by kernel_rfl) (of_decide_eq_true (by kernel_rfl)) k1 bel lt1) trodAll_mk0)), rfl, bel.frame _, fun h => by cases h⟩

theorem torusBacks_jf9 : (Rows.torusBacksRow.inPlace == Try.prog.inPlace 5) = true := by kernel_rfl
theorem torusBacks_jf10 : (Rows.torusBacksRow.unfollowed == Try.prog.unfollowed 5) = true := by kernel_rfl
theorem torusBacks_jf11 : (Rows.torusBacksRow.recurses == Try.prog.recurses 5) = true := by kernel_rfl
theorem torusBacks_jf12 : (Rows.torusBacksRow.named == Try.prog.varsNamed 5) = true := by kernel_rfl
theorem torusBacks_facts : joinedFacts Try.prog 5 Try.f5 Rows.torusBacksSpec Rows.torusBacksRow = true := by
  unfold joinedFacts
  exact (band (band (band (band (band (band (band (band (band (band (band (band (band (band (band (band (band (band (band (band (band (band (band (band (band (band (band (band (band (band (band (by kernel_rfl) jf1) jf2) (by kernel_rfl)) (by kernel_rfl)) (by kernel_rfl)) jf6) (by kernel_rfl)) jf8) torusBacks_jf9) torusBacks_jf10) torusBacks_jf11) torusBacks_jf12) (by kernel_rfl)) (by kernel_rfl)) (by kernel_rfl)) (by kernel_rfl)) (by kernel_rfl)) (by kernel_rfl)) (by kernel_rfl)) (by kernel_rfl)) (by kernel_rfl)) (by kernel_rfl)) (by kernel_rfl)) jf24) jf25) jf26) jf27) (by kernel_rfl)) (by kernel_rfl)) (by kernel_rfl)) (by kernel_rfl))

theorem torusBacks_over : Rows.torusBacksRow.holds Try.pinned (OpenSpec.ofChange Rows.torusBacksSpec) :=
  OpenClaim.holds_of_wide 5 Try.f5 rfl rfl rfl rfl rfl rfl rfl ⟨rfl, rfl, rfl, rfl, rfl⟩ rfl rfl rfl rfl rfl (by kernel_rfl) Try.func5 torusBacks_facts
    (of_decide_eq_true (by kernel_rfl)) (by unfold Func.isWrapper; first | (rw [if_pos (by decide +kernel)]; kernel_rfl) | (rw [if_neg (by decide +kernel)]; exact ⟨rfl, rfl⟩))
    (fun os started H enc _ => torusBacks_lifted os started H enc)

theorem torusBacks_holds : Rows.TorusBacksSaid := torusBacks_over
#print axioms torusBacks_holds

end Go.Proofs.Ytoafojojhdcmfaa
