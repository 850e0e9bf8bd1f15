/- FermiNear: two vectors with small residuals are near to each other, for all fields, masses, vectors and sources.
Conditions: none. -/
import Derived.Test.YtopffllomiojmaaSane7
import Derived.Test.YtopffllomiojmaaBdC
import Derived.Test.YtopffllomiojmaaLngC
import Derived.Test.YtopffllomiojmaaOpenT3
import Derived.Test.YtopffllomiojmaaWlk
import Derived.Test.YtopffllomiojmaaFtM
import Derived.Test.YtopffllomiojmaaJFacts
namespace Go.Proofs.Ytopffllomiojmaa
set_option linter.unusedVariables false
set_option linter.unusedSimpArgs false
set_option maxRecDepth 1000000
open Go.ChangeShapes Go.WideShapes Go.ChangeAt Go.RowKit
open Um Tm Fm

theorem sq_nnN (d : Int) : 0 ≤ d * d := by
  rcases Int.le_total 0 d with h | h
  · exact Int.mul_nonneg h h
  · have := Int.mul_nonneg (show 0 ≤ -d by omega) (show 0 ≤ -d by omega)
    rwa [Int.neg_mul_neg] at this
theorem sq_nearR {d : Int} (h : d * d ≤ 281474976710656) : -16777216 ≤ d ∧ d ≤ 16777216 := by
  constructor
  · refine Int.not_lt.1 fun hd => ?_
    have h1 : (16777217 : Int) * 16777217 ≤ (-d) * (-d) := Int.mul_le_mul (by omega) (by omega) (by omega) (by omega)
    rw [Int.neg_mul_neg] at h1
    omega
  · refine Int.not_lt.1 fun hd => ?_
    have h1 : (16777217 : Int) * 16777217 ≤ d * d := Int.mul_le_mul (by omega) (by omega) (by omega) (by omega)
    omega
theorem mass_rng {m : Int} (h0 : 1 ≤ m) (h1 : m ≤ 10) : 16 ≤ 16 * m * m ∧ 16 * m * m ≤ 1600 := by
  have h : m = 1 ∨ m = 2 ∨ m = 3 ∨ m = 4 ∨ m = 5 ∨ m = 6 ∨ m = 7 ∨ m = 8 ∨ m = 9 ∨ m = 10 := by omega
  rcases h with rfl | rfl | rfl | rfl | rfl | rfl | rfl | rfl | rfl | rfl <;> omega
theorem tdiv_rng {t D : Int} (h0 : 0 ≤ t) (h1 : 1 ≤ D) : 0 ≤ t.tdiv D ∧ t.tdiv D ≤ t := by
  rw [Int.tdiv_eq_ediv_of_nonneg h0]
  exact ⟨Int.ediv_nonneg h0 (by omega), Int.ediv_le_self _ h0⟩
set_option maxHeartbeats 12800000 in
theorem near_long (a b c ma v1 v2 r1 r2 : Int) (ao po qo so : Option Addr) (cap pc qc sc : Nat) (L : List Q) (VM WN BB : List Sp) (w : World) (hm : LiesO w ao L) (hp : LiesOI w po (fl VM)) (hq : LiesOI w qo (fl WN)) (hs : LiesOI w so (fl BB))
    (hLg : ∀ (W : World) (sb : Nat), W.cell? ⟨sb, 0, none⟩ = some (.slice po VM.length pc) → W.cell? ⟨sb, 1, none⟩ = some (.slice qo WN.length qc) → W.cell? ⟨sb, 2, none⟩ = some (.slice so BB.length sc) → Calls Try.prog 17 #[.agg #[.int .i64 a, .int .i64 b, .int .i64 c, .slice ao L.length cap], .slice (some ⟨sb, 0, none⟩) 3 3] W fun e w' => e = .returned (.bool true) ∧ Below W.heap.size W w')
    : Calls Try.prog 15 #[.agg #[.int .i64 a, .int .i64 b, .int .i64 c, .slice ao L.length cap], .int .i64 ma, .agg #[.slice po VM.length pc, .slice qo WN.length qc, .slice so BB.length sc]] w fun e w' => e = .returned (.bool true) ∧ Below w.heap.size w w' := by
  have sn := sane7_any
  have H0 := Lib.hid hm
  have P0 := Lib.hid hp
  have Q0 := Lib.hid hq
  have S0 := Lib.hid hs
  clear hm hp hq hs
  have kc := @Tail.cell_re
  have kc1 : ∀ (W : World) (o : Obj) (d : Nat) (os : Array Obj) (a : Addr), a.block ≤ W.heap.size → (Sort.grow (redrawn (W.alloc o) d) os).cell? a = (W.alloc o).cell? a := fun W o d os a h => Tail.cell_re (W.alloc o) d os a (Nat.lt_of_le_of_lt h (by simp))
  go_enter Try.func15, Try.ntmps15
  go_wp2_with (fail)
  refine (hLg _ _ (by simp [go_sem]) (by simp [go_sem]) (by simp [go_sem])).mono ?_
  rintro e w1 ⟨rfl, hw1⟩
  have bw1 : Below w.heap.size w w1 := bel3 hw1
  have TF1 := Lib.hid (FW.n3a.later hw1)
  have TX1 := Lib.hid (C3.n3b.later hw1)
  have H1 := Lib.hid (H0.out.later bw1)
  have P1 := Lib.hid (P0.out.later bw1)
  have Q1 := Lib.hid (Q0.out.later bw1)
  have S1 := Lib.hid (S0.out.later bw1)
  have HB1 := Lib.hid bw1
  clear hw1 bw1 H0 P0 Q0 S0
  obtain ⟨tf1_0, tf1_1, tf1_2, tf1_3, tf1_4, tf1_5⟩ := TF1.out
  obtain ⟨tx1_0, tx1_1, tx1_2, tx1_3, tx1_4⟩ := TX1.out
  go_wp2_with (fail)
  refine (sn _).mono ?_
  rintro e w2 ⟨rfl, hw2⟩
  clear tf1_0 tf1_1 tf1_2 tf1_3 tf1_4 tf1_5 tx1_0 tx1_1 tx1_2 tx1_3 tx1_4
  have bw2 : Below w1.heap.size w1 w2 := hw2
  have H2 := Lib.hid (H1.out.later bw2)
  have P2 := Lib.hid (P1.out.later bw2)
  have Q2 := Lib.hid (Q1.out.later bw2)
  have S2 := Lib.hid (S1.out.later bw2)
  have TF2 := Lib.hid (TF1.out.later bw2)
  have TX2 := Lib.hid (TX1.out.later bw2)
  have HB2 := Lib.hid (HB1.out.trans (bw2.mono HB1.out.size))
  clear hw2 bw2 H1 P1 Q1 S1 TF1 TX1 HB1
  go_wp2_with (fail)
  go_ret
  exact ⟨rfl, HB2.out⟩

set_option maxHeartbeats 12800000 in
theorem near_skip (a b c ma v1 v2 r1 r2 : Int) (ao po qo so : Option Addr) (cap pc qc sc : Nat) (L : List Q) (VM WN BB : List Sp) (w : World) (hm : LiesO w ao L) (hp : LiesOI w po (fl VM)) (hq : LiesOI w qo (fl WN)) (hs : LiesOI w so (fl BB)) (hx : r1 ≠ 0 ∨ (r1 = 0 ∧ r2 ≠ 0) ∨ (r1 = 0 ∧ r2 = 0 ∧ 1125899906842624 < v1) ∨ (r1 = 0 ∧ r2 = 0 ∧ v1 ≤ 1125899906842624 ∧ 1125899906842624 < v2))
    (hLg : ∀ (W : World) (sb : Nat), W.cell? ⟨sb, 0, none⟩ = some (.slice po VM.length pc) → W.cell? ⟨sb, 1, none⟩ = some (.slice qo WN.length qc) → W.cell? ⟨sb, 2, none⟩ = some (.slice so BB.length sc) → Calls Try.prog 17 #[.agg #[.int .i64 a, .int .i64 b, .int .i64 c, .slice ao L.length cap], .slice (some ⟨sb, 0, none⟩) 3 3] W fun e w' => e = .returned (.bool false) ∧ Below W.heap.size W w')
    (hV : ∀ W : World, LiesO W ao L → LiesOI W po (fl VM) → LiesOI W so (fl BB) → Calls Try.prog 42 #[.agg #[.int .i64 a, .int .i64 b, .int .i64 c, .slice ao L.length cap], .int .i64 ma, .slice po VM.length pc, .slice so BB.length sc] W fun e w' => (∃ sv : Value, e = .returned (.tuple #[sv, .int .i64 v1, .int .i64 r1])) ∧ Below W.heap.size W w')
    (hW : ∀ W : World, LiesO W ao L → LiesOI W qo (fl WN) → LiesOI W so (fl BB) → Calls Try.prog 42 #[.agg #[.int .i64 a, .int .i64 b, .int .i64 c, .slice ao L.length cap], .int .i64 ma, .slice qo WN.length qc, .slice so BB.length sc] W fun e w' => (∃ sv : Value, e = .returned (.tuple #[sv, .int .i64 v2, .int .i64 r2])) ∧ Below W.heap.size W w')
    : Calls Try.prog 15 #[.agg #[.int .i64 a, .int .i64 b, .int .i64 c, .slice ao L.length cap], .int .i64 ma, .agg #[.slice po VM.length pc, .slice qo WN.length qc, .slice so BB.length sc]] w fun e w' => e = .returned (.bool true) ∧ Below w.heap.size w w' := by
  rcases hx with hx | ⟨rfl, hx⟩ | ⟨rfl, rfl, hx⟩ | ⟨rfl, rfl, hy, hx⟩
  all_goals
    try (have hxb : (r1 != 0) = true := by simpa using hx)
    try (have hxb : (r2 != 0) = true := by simpa using hx)
    have sn := sane7_any
    have H0 := Lib.hid hm
    have P0 := Lib.hid hp
    have Q0 := Lib.hid hq
    have S0 := Lib.hid hs
    clear hm hp hq hs
    go_enter Try.func15, Try.ntmps15
    go_wp2_with (fail)
    refine (hLg _ _ (by simp [go_sem]) (by simp [go_sem]) (by simp [go_sem])).mono ?_
    rintro e w1 ⟨rfl, hw1⟩
    have bw1 : Below w.heap.size w w1 := bel3 hw1
    have TF1 := Lib.hid (FW.n3a.later hw1)
    have TX1 := Lib.hid (C3.n3b.later hw1)
    have H1 := Lib.hid (H0.out.later bw1)
    have P1 := Lib.hid (P0.out.later bw1)
    have Q1 := Lib.hid (Q0.out.later bw1)
    have S1 := Lib.hid (S0.out.later bw1)
    have HB1 := Lib.hid bw1
    clear hw1 bw1 H0 P0 Q0 S0
    obtain ⟨tf1_0, tf1_1, tf1_2, tf1_3, tf1_4, tf1_5⟩ := TF1.out
    obtain ⟨tx1_0, tx1_1, tx1_2, tx1_3, tx1_4⟩ := TX1.out
    go_wp2_with (fail)
    refine (hV _ (H1.out) (P1.out) (S1.out)).mono ?_
    rintro e w2 ⟨⟨sv, rfl⟩, hw2⟩
    clear tf1_0 tf1_1 tf1_2 tf1_3 tf1_4 tf1_5 tx1_0 tx1_1 tx1_2 tx1_3 tx1_4
    have bw2 : Below w1.heap.size w1 w2 := hw2
    have H2 := Lib.hid (H1.out.later bw2)
    have P2 := Lib.hid (P1.out.later bw2)
    have Q2 := Lib.hid (Q1.out.later bw2)
    have S2 := Lib.hid (S1.out.later bw2)
    have TF2 := Lib.hid (TF1.out.later bw2)
    have TX2 := Lib.hid (TX1.out.later bw2)
    have HB2 := Lib.hid (HB1.out.trans (bw2.mono HB1.out.size))
    clear hw2 bw2 H1 P1 Q1 S1 TF1 TX1 HB1
    obtain ⟨tf2_0, tf2_1, tf2_2, tf2_3, tf2_4, tf2_5⟩ := TF2.out
    obtain ⟨tx2_0, tx2_1, tx2_2, tx2_3, tx2_4⟩ := TX2.out
    go_wp2_with (fail)
    refine (hW _ (H2.out) (Q2.out) (S2.out)).mono ?_
    rintro e w3 ⟨⟨sw, rfl⟩, hw3⟩
    clear tf2_0 tf2_1 tf2_2 tf2_3 tf2_4 tf2_5 tx2_0 tx2_1 tx2_2 tx2_3 tx2_4
    have bw3 : Below w2.heap.size w2 w3 := hw3
    have H3 := Lib.hid (H2.out.later bw3)
    have P3 := Lib.hid (P2.out.later bw3)
    have Q3 := Lib.hid (Q2.out.later bw3)
    have S3 := Lib.hid (S2.out.later bw3)
    have TF3 := Lib.hid (TF2.out.later bw3)
    have TX3 := Lib.hid (TX2.out.later bw3)
    have HB3 := Lib.hid (HB2.out.trans (bw3.mono HB2.out.size))
    clear hw3 bw3 H2 P2 Q2 S2 TF2 TX2 HB2
    go_wp2_with (fail)
    refine (sn _).mono ?_
    rintro e w4 ⟨rfl, hw4⟩
    have bw4 : Below w3.heap.size w3 w4 := hw4
    have H4 := Lib.hid (H3.out.later bw4)
    have P4 := Lib.hid (P3.out.later bw4)
    have Q4 := Lib.hid (Q3.out.later bw4)
    have S4 := Lib.hid (S3.out.later bw4)
    have TF4 := Lib.hid (TF3.out.later bw4)
    have TX4 := Lib.hid (TX3.out.later bw4)
    have HB4 := Lib.hid (HB3.out.trans (bw4.mono HB3.out.size))
    clear hw4 bw4 H3 P3 Q3 S3 TF3 TX3 HB3
    go_wp2_with (fail)
    go_ret
    exact ⟨rfl, HB4.out⟩

set_option maxHeartbeats 12800000 in
theorem near_ok (a b c ma v1 v2 r1 r2 : Int) (ao po qo so : Option Addr) (cap pc qc sc : Nat) (L : List Q) (VM WN BB : List Sp) (w : World) (hm : LiesO w ao L) (hp : LiesOI w po (fl VM)) (hq : LiesOI w qo (fl WN)) (hs : LiesOI w so (fl BB)) (n : Nat) (Z : Nat → Int) (hlv : VM.length = n) (hlw : WN.length = n) (hn16 : n ≤ 16) (ma0 : 1 ≤ ma) (ma1 : ma ≤ 10) (v10 : 0 ≤ v1) (v11 : v1 ≤ 1125899906842624) (v20 : 0 ≤ v2) (v21 : v2 ≤ 1125899906842624) (hZ0 : Z 0 = 0) (hZ : ∀ i, i < n → Z (i + 1) = Z i + dot4 (addS (at0 WN i) (smS (-1) (at0 VM i))) (addS (at0 WN i) (smS (-1) (at0 VM i)))) (hT : ∀ i, i ≤ n → 0 ≤ Z i ∧ Z i ≤ 281474976710656) (hq1 : Z n ≤ (2 * (v1 + v2)).tdiv (16 * ma * ma))
    (hLg : ∀ (W : World) (sb : Nat), W.cell? ⟨sb, 0, none⟩ = some (.slice po VM.length pc) → W.cell? ⟨sb, 1, none⟩ = some (.slice qo WN.length qc) → W.cell? ⟨sb, 2, none⟩ = some (.slice so BB.length sc) → Calls Try.prog 17 #[.agg #[.int .i64 a, .int .i64 b, .int .i64 c, .slice ao L.length cap], .slice (some ⟨sb, 0, none⟩) 3 3] W fun e w' => e = .returned (.bool false) ∧ Below W.heap.size W w')
    (hV : ∀ W : World, LiesO W ao L → LiesOI W po (fl VM) → LiesOI W so (fl BB) → Calls Try.prog 42 #[.agg #[.int .i64 a, .int .i64 b, .int .i64 c, .slice ao L.length cap], .int .i64 ma, .slice po VM.length pc, .slice so BB.length sc] W fun e w' => (∃ sv : Value, e = .returned (.tuple #[sv, .int .i64 v1, .int .i64 0])) ∧ Below W.heap.size W w')
    (hW : ∀ W : World, LiesO W ao L → LiesOI W qo (fl WN) → LiesOI W so (fl BB) → Calls Try.prog 42 #[.agg #[.int .i64 a, .int .i64 b, .int .i64 c, .slice ao L.length cap], .int .i64 ma, .slice qo WN.length qc, .slice so BB.length sc] W fun e w' => (∃ sv : Value, e = .returned (.tuple #[sv, .int .i64 v2, .int .i64 0])) ∧ Below W.heap.size W w')
    : Calls Try.prog 15 #[.agg #[.int .i64 a, .int .i64 b, .int .i64 c, .slice ao L.length cap], .int .i64 ma, .agg #[.slice po VM.length pc, .slice qo WN.length qc, .slice so BB.length sc]] w fun e w' => e = .returned (.bool true) ∧ Below w.heap.size w w' := by
  obtain ⟨s, hv12⟩ : ∃ s, v1 + v2 = s := ⟨_, rfl⟩
  rw [hv12] at hq1
  have z0 : 0 ≤ s := by omega
  have z1 : s ≤ 2251799813685248 := by omega
  have HZ := Lib.hid hZ
  have HS0 := Lib.hid hZ0
  have HT := Lib.hid hT
  have HQ1 := Lib.hid hq1
  have HV := Lib.hid hv12
  have HLV := Lib.hid hlv
  have HLW := Lib.hid hlw
  clear hZ hZ0 hT hq1 hv12 hlv hlw
  have sn := sane7_any
  have H0 := Lib.hid hm
  have P0 := Lib.hid hp
  have Q0 := Lib.hid hq
  have S0 := Lib.hid hs
  clear hm hp hq hs
  have kc := @Tail.cell_re
  have kc1 : ∀ (W : World) (o : Obj) (d : Nat) (os : Array Obj) (a : Addr), a.block ≤ W.heap.size → (Sort.grow (redrawn (W.alloc o) d) os).cell? a = (W.alloc o).cell? a := fun W o d os a h => Tail.cell_re (W.alloc o) d os a (Nat.lt_of_le_of_lt h (by simp))
  go_enter Try.func15, Try.ntmps15
  go_wp2_with (fail)
  refine (hLg _ _ (by simp [go_sem]) (by simp [go_sem]) (by simp [go_sem])).mono ?_
  rintro e w1 ⟨rfl, hw1⟩
  have bw1 : Below w.heap.size w w1 := bel3 hw1
  have TF1 := Lib.hid (FW.n3a.later hw1)
  have TX1 := Lib.hid (C3.n3b.later hw1)
  have H1 := Lib.hid (H0.out.later bw1)
  have P1 := Lib.hid (P0.out.later bw1)
  have Q1 := Lib.hid (Q0.out.later bw1)
  have S1 := Lib.hid (S0.out.later bw1)
  have HB1 := Lib.hid bw1
  clear hw1 bw1 H0 P0 Q0 S0
  obtain ⟨tf1_0, tf1_1, tf1_2, tf1_3, tf1_4, tf1_5⟩ := TF1.out
  obtain ⟨tx1_0, tx1_1, tx1_2, tx1_3, tx1_4⟩ := TX1.out
  go_wp2_with (fail)
  refine (hV _ (H1.out) (P1.out) (S1.out)).mono ?_
  rintro e w2 ⟨⟨sv, rfl⟩, hw2⟩
  clear tf1_0 tf1_1 tf1_2 tf1_3 tf1_4 tf1_5 tx1_0 tx1_1 tx1_2 tx1_3 tx1_4
  have bw2 : Below w1.heap.size w1 w2 := hw2
  have H2 := Lib.hid (H1.out.later bw2)
  have P2 := Lib.hid (P1.out.later bw2)
  have Q2 := Lib.hid (Q1.out.later bw2)
  have S2 := Lib.hid (S1.out.later bw2)
  have TF2 := Lib.hid (TF1.out.later bw2)
  have TX2 := Lib.hid (TX1.out.later bw2)
  have HB2 := Lib.hid (HB1.out.trans (bw2.mono HB1.out.size))
  clear hw2 bw2 H1 P1 Q1 S1 TF1 TX1 HB1
  obtain ⟨tf2_0, tf2_1, tf2_2, tf2_3, tf2_4, tf2_5⟩ := TF2.out
  obtain ⟨tx2_0, tx2_1, tx2_2, tx2_3, tx2_4⟩ := TX2.out
  go_wp2_with (fail)
  refine (hW _ (H2.out) (Q2.out) (S2.out)).mono ?_
  rintro e w3 ⟨⟨sw, rfl⟩, hw3⟩
  clear tf2_0 tf2_1 tf2_2 tf2_3 tf2_4 tf2_5 tx2_0 tx2_1 tx2_2 tx2_3 tx2_4
  have bw3 : Below w2.heap.size w2 w3 := hw3
  have H3 := Lib.hid (H2.out.later bw3)
  have P3 := Lib.hid (P2.out.later bw3)
  have Q3 := Lib.hid (Q2.out.later bw3)
  have S3 := Lib.hid (S2.out.later bw3)
  have TF3 := Lib.hid (TF2.out.later bw3)
  have TX3 := Lib.hid (TX2.out.later bw3)
  have HB3 := Lib.hid (HB2.out.trans (bw3.mono HB2.out.size))
  clear hw3 bw3 H2 P2 Q2 S2 TF2 TX2 HB2
  clear TF3
  clear H3
  clear S3
  obtain ⟨tx3_0, tx3_1, tx3_2, tx3_3, tx3_4⟩ := TX3.out
  go_wp2_with (fail)
  clear tx3_0 tx3_1 tx3_2 tx3_3 tx3_4
  go_loopw [13, 14, 15, 16] (fun p q _ _ wr => ∃ i : Nat, i ≤ n ∧ q = .int .i64 i ∧ p = .int .i64 (Z i) ∧ Hid (C3 wr (w.heap.size + 1) (.slice po VM.length pc) (.slice qo WN.length qc) (.slice so BB.length sc)) ∧ Hid (LiesOI wr po (fl VM)) ∧ Hid (LiesOI wr qo (fl WN)) ∧ Hid (Below w.heap.size w wr)) (fun _ q _ _ _ => n - (intOf q).toNat)
  case atStart => exact ⟨0, by omega, rfl, by rw [HS0.out], TX3, P3, Q3, HB3⟩
  case round =>
    obtain ⟨i, hi, rfl, rfl, hTX, hP, hQ, hB⟩ := hrel
    clear TX3 P3 Q3 HB3
    obtain ⟨x0, x1, x2, xf, xl⟩ := hTX.out
    by_cases hlt : i < n
    · have i1 : (i : Int) < (n : Int) := by omega
      have iV : (i : Int) < (VM.length : Int) := by have := HLV.out; omega
      have iW : (i : Int) < (WN.length : Int) := by have := HLW.out; omega
      have jV : i < VM.length := by omega
      have jW : i < WN.length := by omega
      obtain ⟨pb, po2, rfl, hPl⟩ : ∃ b o, po = some ⟨b, o, none⟩ ∧ LiesI wr b o (fl VM) := by
        rcases hP.out with h | h
        · have := fl_len VM; rw [h] at this; simp at this; omega
        · exact h
      obtain ⟨qb, qo2, rfl, hQl⟩ : ∃ b o, qo = some ⟨b, o, none⟩ ∧ LiesI wr b o (fl WN) := by
        rcases hQ.out with h | h
        · have := fl_len WN; rw [h] at this; simp at this; omega
        · exact h
      have eZ := HZ.out i hlt
      have hx : VM[i]? = some (VM[i]'jV) := List.getElem?_eq_getElem jV
      have hy : WN[i]? = some (WN[i]'jW) := List.getElem?_eq_getElem jW
      rw [at0_of hx, at0_of hy] at eZ
      have HX := Lib.hid hx
      have HY := Lib.hid hy
      clear hx hy
      have t0 := HT.out i (by omega)
      have t1 := HT.out (i + 1) (by omega)
      generalize VM[i]'jV = x at *
      generalize WN[i]'jW = y at *
      obtain ⟨s4, hs4⟩ : ∃ s4, Z (i + 1) = s4 := ⟨_, rfl⟩
      obtain ⟨s0, hs0⟩ : ∃ s0, Z i = s0 := ⟨_, rfl⟩
      rw [hs4] at eZ t1
      rw [hs0] at eZ t0
      rw [hs0]
      have HS4 := Lib.hid hs4
      clear hs4 hs0
      obtain ⟨d0, hd0⟩ : ∃ d, x.a - y.a = d := ⟨_, rfl⟩
      obtain ⟨q0, hq0⟩ : ∃ q, d0 * d0 = q := ⟨_, rfl⟩
      have n0 : 0 ≤ q0 := by rw [← hq0]; exact sq_nnN d0
      obtain ⟨d1, hd1⟩ : ∃ d, x.b - y.b = d := ⟨_, rfl⟩
      obtain ⟨q1, hq1⟩ : ∃ q, d1 * d1 = q := ⟨_, rfl⟩
      have n1 : 0 ≤ q1 := by rw [← hq1]; exact sq_nnN d1
      obtain ⟨d2, hd2⟩ : ∃ d, x.c - y.c = d := ⟨_, rfl⟩
      obtain ⟨q2, hq2⟩ : ∃ q, d2 * d2 = q := ⟨_, rfl⟩
      have n2 : 0 ≤ q2 := by rw [← hq2]; exact sq_nnN d2
      obtain ⟨d3, hd3⟩ : ∃ d, x.d - y.d = d := ⟨_, rfl⟩
      obtain ⟨q3, hq3⟩ : ∃ q, d3 * d3 = q := ⟨_, rfl⟩
      have n3 : 0 ≤ q3 := by rw [← hq3]; exact sq_nnN d3
      rw [show dot4 (addS y (smS (-1) x)) (addS y (smS (-1) x)) = q0 + q1 + q2 + q3 by rw [← hq0, ← hq1, ← hq2, ← hq3, ← hd0, ← hd1, ← hd2, ← hd3]; unfold dot4 addS smS; grind] at eZ
      have b0 := sq_nearR (d := d0) (by rw [hq0]; omega)
      obtain ⟨b0l, b0h⟩ := b0
      have b1 := sq_nearR (d := d1) (by rw [hq1]; omega)
      obtain ⟨b1l, b1h⟩ := b1
      have b2 := sq_nearR (d := d2) (by rw [hq2]; omega)
      obtain ⟨b2l, b2h⟩ := b2
      have b3 := sq_nearR (d := d3) (by rw [hq3]; omega)
      obtain ⟨b3l, b3h⟩ := b3
      obtain ⟨s1, hs1⟩ : ∃ s, s0 + q0 = s := ⟨_, rfl⟩
      have u1 : 0 ≤ s1 := by omega
      have vv1 : s1 ≤ 281474976710656 := by omega
      obtain ⟨s2, hs2⟩ : ∃ s, s1 + q1 = s := ⟨_, rfl⟩
      have u2 : 0 ≤ s2 := by omega
      have vv2 : s2 ≤ 281474976710656 := by omega
      obtain ⟨s3, hs3⟩ : ∃ s, s2 + q2 = s := ⟨_, rfl⟩
      have u3 : 0 ≤ s3 := by omega
      have vv3 : s3 ≤ 281474976710656 := by omega
      have hs4 : s3 + q3 = s4 := by omega
      have u4 : 0 ≤ s4 := by omega
      have vv4 : s4 ≤ 281474976710656 := by omega
      obtain ⟨t0a, t0b⟩ := t0
      clear t1 eZ
      have HPl := Lib.hid hPl
      have HQl := Lib.hid hQl
      clear hPl hQl hP hQ
      have E0 := Lib.hid (And.intro hd0 (And.intro hq0 hs1))
      clear hd0 hq0 hs1
      have E1 := Lib.hid (And.intro hd1 (And.intro hq1 hs2))
      clear hd1 hq1 hs2
      have E2 := Lib.hid (And.intro hd2 (And.intro hq2 hs3))
      clear hd2 hq2 hs3
      have E3 := Lib.hid (And.intro hd3 (And.intro hq3 hs4))
      clear hd3 hq3 hs4
      go_wp2_with (fail)
      clear x0 x1 x2 xf xl
      refine wp_loop_rounds 5 ?_
      rw [rounds_succ]
      obtain ⟨y00, y01, y02, yf0, yl0⟩ := hTX.out
      obtain ⟨e0a, e0b, e0c, e0d⟩ := four_at HPl.out HX.out
      obtain ⟨g0a, g0b, g0c, g0d⟩ := four_at HQl.out HY.out
      have lp0 : pb < wr.heap.size := World.block_lt_of_cell? _ _ e0a
      have lq0 : qb < wr.heap.size := World.block_lt_of_cell? _ _ g0a
      obtain ⟨hd0, hq0, hs1⟩ := E0.out
      go_wp2_with (fail)
      refine Tail.region_below (by kernel_rfl) (by kernel_rfl) ?_
      repeat (go_big_quiet_step (fail))
      refine wpQuiet_nil ?_
      intro w10 hw10
      have T10 := Lib.hid (hTX.out.later hw10)
      have PL10 := Lib.hid (HPl.out.later hw10)
      have QL10 := Lib.hid (HQl.out.later hw10)
      have BL10 := Lib.hid (hB.out.trans (hw10.mono hB.out.size))
      clear y00 y01 y02 yf0 yl0 e0a e0b e0c e0d g0a g0b g0c g0d lp0 lq0 hw10 hTX hB HPl HQl
      go_wp2_with (fail)
      clear hd0 hq0 hs1
      rw [rounds_succ]
      obtain ⟨y10, y11, y12, yf1, yl1⟩ := T10.out
      obtain ⟨e1a, e1b, e1c, e1d⟩ := four_at PL10.out HX.out
      obtain ⟨g1a, g1b, g1c, g1d⟩ := four_at QL10.out HY.out
      have lp1 : pb < w10.heap.size := World.block_lt_of_cell? _ _ e1a
      have lq1 : qb < w10.heap.size := World.block_lt_of_cell? _ _ g1a
      obtain ⟨hd1, hq1, hs2⟩ := E1.out
      go_wp2_with (fail)
      refine Tail.region_below (by kernel_rfl) (by kernel_rfl) ?_
      repeat (go_big_quiet_step (fail))
      refine wpQuiet_nil ?_
      intro w11 hw11
      have T11 := Lib.hid (T10.out.later hw11)
      have PL11 := Lib.hid (PL10.out.later hw11)
      have QL11 := Lib.hid (QL10.out.later hw11)
      have BL11 := Lib.hid (BL10.out.trans (hw11.mono BL10.out.size))
      clear y10 y11 y12 yf1 yl1 e1a e1b e1c e1d g1a g1b g1c g1d lp1 lq1 hw11 T10 BL10 PL10 QL10
      go_wp2_with (fail)
      clear hd1 hq1 hs2
      rw [rounds_succ]
      obtain ⟨y20, y21, y22, yf2, yl2⟩ := T11.out
      obtain ⟨e2a, e2b, e2c, e2d⟩ := four_at PL11.out HX.out
      obtain ⟨g2a, g2b, g2c, g2d⟩ := four_at QL11.out HY.out
      have lp2 : pb < w11.heap.size := World.block_lt_of_cell? _ _ e2a
      have lq2 : qb < w11.heap.size := World.block_lt_of_cell? _ _ g2a
      obtain ⟨hd2, hq2, hs3⟩ := E2.out
      go_wp2_with (fail)
      refine Tail.region_below (by kernel_rfl) (by kernel_rfl) ?_
      repeat (go_big_quiet_step (fail))
      refine wpQuiet_nil ?_
      intro w12 hw12
      have T12 := Lib.hid (T11.out.later hw12)
      have PL12 := Lib.hid (PL11.out.later hw12)
      have QL12 := Lib.hid (QL11.out.later hw12)
      have BL12 := Lib.hid (BL11.out.trans (hw12.mono BL11.out.size))
      clear y20 y21 y22 yf2 yl2 e2a e2b e2c e2d g2a g2b g2c g2d lp2 lq2 hw12 T11 BL11 PL11 QL11
      go_wp2_with (fail)
      clear hd2 hq2 hs3
      rw [rounds_succ]
      obtain ⟨y30, y31, y32, yf3, yl3⟩ := T12.out
      obtain ⟨e3a, e3b, e3c, e3d⟩ := four_at PL12.out HX.out
      obtain ⟨g3a, g3b, g3c, g3d⟩ := four_at QL12.out HY.out
      have lp3 : pb < w12.heap.size := World.block_lt_of_cell? _ _ e3a
      have lq3 : qb < w12.heap.size := World.block_lt_of_cell? _ _ g3a
      obtain ⟨hd3, hq3, hs4⟩ := E3.out
      go_wp2_with (fail)
      refine Tail.region_below (by kernel_rfl) (by kernel_rfl) ?_
      repeat (go_big_quiet_step (fail))
      refine wpQuiet_nil ?_
      intro w13 hw13
      have T13 := Lib.hid (T12.out.later hw13)
      have PL13 := Lib.hid (PL12.out.later hw13)
      have QL13 := Lib.hid (QL12.out.later hw13)
      have BL13 := Lib.hid (BL12.out.trans (hw13.mono BL12.out.size))
      clear y30 y31 y32 yf3 yl3 e3a e3b e3c e3d g3a g3b g3c g3d lp3 lq3 hw13 T12 BL12 PL12 QL12
      go_wp2_with (fail)
      clear hd3 hq3 hs4
      rw [rounds_succ]
      go_wp2_with (fail)
      exact ⟨⟨i + 1, by omega, by go_num, by rw [HS4.out], T13, Lib.hid (.inr ⟨_, _, rfl, PL13.out⟩), Lib.hid (.inr ⟨_, _, rfl, QL13.out⟩), BL13⟩, by simp [intOf]; omega⟩
    · obtain rfl : n = i := by omega
      have iV : ¬ (n : Int) < (VM.length : Int) := by have := HLV.out; omega
      have hv12 := HV.out
      obtain ⟨m1, hm1⟩ : ∃ m, 16 * ma = m := ⟨_, rfl⟩
      obtain ⟨D, hD⟩ : ∃ D, m1 * ma = D := ⟨_, rfl⟩
      have D0 : 16 ≤ D ∧ D ≤ 1600 := by rw [← hD, ← hm1]; exact mass_rng ma0 ma1
      obtain ⟨D1, D2⟩ := D0
      have D3 : (D == 0) = false := by simp; omega
      have D4 : ¬ D = 0 := by omega
      obtain ⟨t2, ht2⟩ : ∃ t, 2 * s = t := ⟨_, rfl⟩
      obtain ⟨qv, hqv⟩ : ∃ q, t2.tdiv D = q := ⟨_, rfl⟩
      obtain ⟨zn, hzn⟩ : ∃ z, Z n = z := ⟨_, rfl⟩
      have hfin : zn ≤ qv := by rw [← hzn, ← hqv, ← ht2, ← hD, ← hm1]; exact HQ1.out
      rw [hzn]
      have qr : 0 ≤ qv ∧ qv ≤ t2 := by rw [← hqv]; exact tdiv_rng (by omega) (by omega)
      obtain ⟨qr0, qr1⟩ := qr
      go_wp2_with (fail)
      refine (sn _).mono ?_
      rintro e w9 ⟨rfl, hw9⟩
      go_wp2_with (fail)
      go_ret
      have hb := hB.out
      exact ⟨rfl, by repeat (first | (with_reducible exact Below.refl _ _) | (with_reducible refine Below.setCell ?_ ?_ _) | (with_reducible refine Below.drew ?_) | (with_reducible refine Below.alloc ?_ ?_ _) | (with_reducible refine Below.trans ?_ (Below.mono hw9 ?_)) | (with_reducible refine Below.trans ?_ (Below.mono hb ?_)) | (with_reducible exact hw9.size) | (with_reducible exact hb.size) | omega | (simp <;> omega) | (simp <;> (have s := hw9.size; omega)) | (simp <;> (have s := hb.size; omega)) | (have s0 := hw9.size; (try simp at s0); have s1 := hb.size; (try simp at s1); (try simp); omega))⟩
theorem small_sm2 : ∀ k : Nat, k < 24 → (-2 ≤ (tw (small k)).a ∧ (tw (small k)).a ≤ 2) ∧ (-2 ≤ (tw (small k)).b ∧ (tw (small k)).b ≤ 2) ∧ (-2 ≤ (tw (small k)).c ∧ (tw (small k)).c ≤ 2) ∧ (-2 ≤ (tw (small k)).d ∧ (tw (small k)).d ≤ 2) := by decide +kernel
theorem one_sm2 : Sm2 one := by
  have h : small ((0 : Nat) : Int) = one := by decide +kernel
  rw [← h]
  exact small_sm2 0 (by omega)
theorem nums_sm2 {a b c : Int} {L : List Q} {ns : List Int} (h : numsR a b c L ns 0) : ∀ x, x ∈ L → Sm2 x := by
  intro x hx
  obtain ⟨i, hi, rfl⟩ := List.getElem_of_mem hx
  rcases h with ⟨_, h1, _⟩ | ⟨hr, ⟨hq, _⟩ | ⟨_, h⟩⟩
  · exact absurd rfl h1
  · rcases hq with ⟨-, hn⟩ | ⟨hf, -⟩
    · obtain ⟨m, -, hm⟩ := hn.2 i _ hi (List.getElem?_eq_getElem hi)
      rcases hm with ⟨k, hk, he, -⟩ | ⟨-, -, hf⟩
      · rw [← he]; exact small_sm2 k hk
      · cases hf
    · cases hf
  · cases h
theorem alle_bd {m : Int} (hm : 0 ≤ m) {M : List Sp} (h : AllE m M) (s : Nat) : Bd m (at0 M s) := by
  by_cases hs : s < M.length
  · rw [at0_of (List.getElem?_eq_getElem hs)]
    exact h s _ (List.getElem?_eq_getElem hs)
  · rw [at0_out (by omega)]
    refine ⟨?_, ?_, ?_, ?_⟩ <;> show -m ≤ 0 ∧ (0 : Int) ≤ m <;> omega
/-- the residual of a vector, whatever it is -/
theorem resid_ex (a b c ma r0 : Int) (ao : Option Addr) (cap : Nat) (L : List Q) (ns : List Int) (hr : numsR a b c L ns r0) (hL : L.length ≤ 200) (M N : List Sp) (hM : M.length ≤ 100) (hN : N.length ≤ 100) : ∃ v r : Int, (∀ (po qo : Option Addr) (pc qc : Nat) (W : World), LiesO W ao L → LiesOI W po (fl M) → LiesOI W qo (fl N) → Calls Try.prog 42 #[.agg #[.int .i64 a, .int .i64 b, .int .i64 c, .slice ao L.length cap], .int .i64 ma, .slice po M.length pc, .slice qo N.length qc] W fun e w' => (∃ sv : Value, e = .returned (.tuple #[sv, .int .i64 v, .int .i64 r])) ∧ Below W.heap.size W w') ∧ (r = 0 → r0 = 0 ∧ ms2 L.length M N 0 ma 0 ∧ AllE sE N ∧ ∀ n, Fld7 a b c L n → AllE mE (remL ma n (arms a b c L L.length) M N) ∧ v = dotL (remL ma n (arms a b c L L.length) M N) (remL ma n (arms a b c L L.length) M N)) := by
  obtain ⟨r1, hv⟩ := rmR_ex L.length M N r0 ma
  by_cases h0 : r1 = 0
  · subst h0
    have hms := ms2_ok (rmR_ok hv).1
    obtain rfl := hms.1
    obtain ⟨n, hF⟩ := fld7 hr
    have hu : ∀ m, Fld7 a b c L m → m = n := fun m h => by have := h.l; have := hF.l; omega
    by_cases hx : AllE mE (remL ma n (arms a b c L L.length) M N)
    · have hxl : (remL ma n (arms a b c L L.length) M N).length = n := by
        have h1 := hms.2.2.2.1
        have := hF.l
        rw [remL_len]; omega
      have hn16 : n ≤ 16 := by have := hF.z.p; have := hF.e; omega
      refine ⟨_, 0, fun po qo pc qc W h1 h2 h3 => ((residual_ok a b c ma ao po qo cap pc qc n L ns M N W h1 h2 h3 hr hv hF (by omega) (by omega) hx).mono fun e w' ⟨⟨g, k, he, _, _⟩, hw⟩ => ⟨⟨_, he⟩, hw⟩), fun _ => ⟨rfl, (rmR_ok hv).1, (rmR_ok hv).2, fun m hm => ?_⟩⟩
      rw [hu m hm]
      exact ⟨hx, dotL_w hx (by omega)⟩
    · exact ⟨0, 3, fun po qo pc qc W h1 h2 h3 => ((residual_large a b c ma ao po qo cap pc qc n L ns M N W h1 h2 h3 hr hv hF (by omega) (by omega) hx).mono fun e w' ⟨he, hw⟩ => ⟨⟨_, he⟩, hw⟩), fun h => by omega⟩
  · exact ⟨0, r1, fun po qo pc qc W h1 h2 h3 => ((residual_bad a b c r0 ma r1 ao po qo cap pc qc L ns M N W h1 h2 h3 hr hv h0 (by omega) (by omega) (by omega)).mono fun e w' ⟨he, hw⟩ => ⟨⟨_, he⟩, hw⟩), fun h => absurd h h0⟩
theorem fermiNear_walk (a b c : Int) (ao : Option Addr) (L : List Q) (cap : Nat) (ma : Int) (po : Option Addr) (VM : List Sp) (pc : Nat) (qo : Option Addr) (WN : List Sp) (qc : Nat) (so : Option Addr) (BB : List Sp) (sc : Nat) (w : World) (_ : L.length ≤ maxLen) (hm : LiesO w ao L) (_ : VM.length ≤ pc) (_ : pc ≤ maxLen) (hp : LiesOI w po (fl VM)) (_ : po = none → pc = 0) (_ : WN.length ≤ qc) (_ : qc ≤ maxLen) (hq : LiesOI w qo (fl WN)) (_ : qo = none → qc = 0) (_ : BB.length ≤ sc) (_ : sc ≤ maxLen) (hs : LiesOI w so (fl BB)) (_ : so = none → sc = 0) : Calls Try.prog 15 #[.agg #[.int .i64 a, .int .i64 b, .int .i64 c, .slice ao L.length cap], .int .i64 ma, .agg #[.slice po VM.length pc, .slice qo WN.length qc, .slice so BB.length sc]] w fun e w' => e = .returned (.bool true) ∧ Below w.heap.size w w' := by
  by_cases hn : 100 < VM.length ∨ 100 < WN.length ∨ 100 < BB.length ∨ 200 < L.length
  · exact near_long a b c ma 0 0 0 0 ao po qo so cap pc qc sc L VM WN BB w hm hp hq hs (fun W sb h1 h2 h3 => long73_any a b c ao po qo so cap pc qc sc L.length VM.length WN.length BB.length sb true W h1 h2 h3 (.inr ⟨hn, rfl⟩))
  · have hLg := fun (W : World) (sb : Nat) (h1 : W.cell? ⟨sb, 0, none⟩ = some (.slice po VM.length pc)) (h2 : W.cell? ⟨sb, 1, none⟩ = some (.slice qo WN.length qc)) (h3 : W.cell? ⟨sb, 2, none⟩ = some (.slice so BB.length sc)) => long73_any a b c ao po qo so cap pc qc sc L.length VM.length WN.length BB.length sb false W h1 h2 h3 (.inl ⟨by omega, by omega, by omega, by omega, rfl⟩)
    obtain ⟨ns, r0, hr⟩ := nums7_ex a b c L
    obtain ⟨v1, r1, hV, hV0⟩ := resid_ex a b c ma r0 ao cap L ns hr (by omega) VM BB (by omega) (by omega)
    obtain ⟨v2, r2, hW, hW0⟩ := resid_ex a b c ma r0 ao cap L ns hr (by omega) WN BB (by omega) (by omega)
    by_cases hx : r1 ≠ 0 ∨ (r1 = 0 ∧ r2 ≠ 0) ∨ (r1 = 0 ∧ r2 = 0 ∧ 1125899906842624 < v1) ∨ (r1 = 0 ∧ r2 = 0 ∧ v1 ≤ 1125899906842624 ∧ 1125899906842624 < v2)
    · exact near_skip a b c ma v1 v2 r1 r2 ao po qo so cap pc qc sc L VM WN BB w hm hp hq hs hx hLg (hV po so pc sc) (hW qo so qc sc)
    · have e1 : r1 = 0 := by omega
      have e2 : r2 = 0 := by omega
      subst e1
      subst e2
      obtain ⟨rfl, m1, hsB, f1⟩ := hV0 rfl
      obtain ⟨-, m2, -, f2⟩ := hW0 rfl
      obtain ⟨-, lv, aV, lb, aB, ima⟩ := ms2_ok m1
      obtain ⟨-, lw, aW, -, -, -⟩ := ms2_ok m2
      obtain ⟨n, hF⟩ := fld7 hr
      have hn16 : n ≤ 16 := by have := hF.z.p; have := hF.e; omega
      have hfl := hF.l
      obtain ⟨g1, rfl⟩ := f1 n hF
      obtain ⟨g2, rfl⟩ := f2 n hF
      have lV : VM.length = n := by omega
      have lW : WN.length = n := by omega
      have lB : BB.length = n := by omega
      obtain ⟨d10, -⟩ := dotL_rng g1 (by rw [remL_len]; omega)
      obtain ⟨d20, -⟩ := dotL_rng g2 (by rw [remL_len]; omega)
      have hnear := near hF.z hF.e (nums_sm2 hr) one_sm2 (k := L.length) (by omega) hn16 (ma := ma) (by have := ima.1; omega) ima.2 lV lW lB (alle_bd (by decide) aV) (alle_bd (by decide) aW) (alle_bd (by decide) hsB)
      have hnear2 : 16 * ma * ma * sqF (at0 (dfL n VM WN)) n ≤ 2 * (dotL (remL ma n (arms a b c L L.length) VM BB) (remL ma n (arms a b c L L.length) VM BB) + dotL (remL ma n (arms a b c L L.length) WN BB) (remL ma n (arms a b c L L.length) WN BB)) := hnear
      clear hnear
      generalize dotL (remL ma n (arms a b c L L.length) VM BB) (remL ma n (arms a b c L L.length) VM BB) = v1 at *
      generalize dotL (remL ma n (arms a b c L L.length) WN BB) (remL ma n (arms a b c L L.length) WN BB) = v2 at *
      obtain ⟨D1, D2⟩ := mass_rng ima.1 ima.2
      have hz := sqF_nn (at0 (dfL n VM WN)) n
      have hq1 : sqF (at0 (dfL n VM WN)) n ≤ (2 * (v1 + v2)).tdiv (16 * ma * ma) := by
        rw [Int.tdiv_eq_ediv_of_nonneg (by omega)]
        refine Int.le_ediv_of_mul_le (by omega) ?_
        rw [Int.mul_comm]
        exact hnear2
      have hZn : sqF (at0 (dfL n VM WN)) n ≤ 281474976710656 := by
        have h16 : 16 * sqF (at0 (dfL n VM WN)) n ≤ 16 * ma * ma * sqF (at0 (dfL n VM WN)) n := Int.mul_le_mul_of_nonneg_right D1 hz
        omega
      refine near_ok a b c ma v1 v2 0 0 ao po qo so cap pc qc sc L VM WN BB w hm hp hq hs n (sqF (at0 (dfL n VM WN))) lV lW hn16 ima.1 ima.2 d10 (by omega) d20 (by omega) rfl (fun i hi => ?_) (fun i hi => ⟨sqF_nn _ _, ?_⟩) hq1 hLg (hV po so pc sc) (hW qo so qc sc)
      · show sqF (at0 (dfL n VM WN)) i + dot4 (at0 (dfL n VM WN) i) (at0 (dfL n VM WN) i) = _
        unfold dfL
        rw [at0_tab _ hi]
      · have := sqF_mono (at0 (dfL n VM WN)) hi
        omega

/-! ### The statement of the law FermiNear, out of its walk -/
set_option maxRecDepth 100000 in
theorem fermiNear_lifted (os : Os) (started : os.Started) (H : Type) (enc : TypeId × Value → H) :
    ReturnsInHanded {} Try.checked os 15 .any (Rows.fermiNearSpec.pre6 enc Try.prog Try.f15 Rows.fermiNearRow.domain false) (Rows.fermiNearSpec.post enc Try.prog Try.f15 false true false false) := by
  refine returnsInHanded_of_change (C := Try.checked) own started (by kernel_rfl) Try.func15
    (ChangeSpec.witness6 (enc := enc) (C := Try.checked) false ⟨#[], #[.agg #[.int .i64 0, .int .i64 0, .int .i64 0, .slice none 0 0], .int .i64 0, .agg #[.slice none 0 0, .slice none 0 0, .slice none 0 0]], []⟩ 8 (by kernel_rfl) (by kernel_rfl) (by kernel_rfl) (by kernel_rfl)) ?_
  intro W base args ds gs before hval0 hW hcnd _
  have hval : ∀ (j : Nat) t v, Try.f15.params[j]? = some t → args[j]? = some v → Value.okWide Try.prog W .any base t v := hval0
  have hW' := hW
  obtain ⟨p, q, hA0, hV, rfl, hfz, hnd⟩ := hW
  have hA : DataW.TrodAll enc Try.prog W 0 (fun _ => true) true Try.f15.params.toList args.toList ds p := hA0
  rw [Try.params15] at hA hval
  obtain ⟨v0, vs0, d0, ds0, p0, q0, hargs, rfl, rfl, h0, r0⟩ := trodAll_cons hA
  obtain ⟨v1, vs1, d1, ds1, p1, q1, rfl, rfl, rfl, h1, r1⟩ := trodAll_cons r0
  obtain ⟨v2, vs2, d2, ds2, p2, q2, rfl, rfl, rfl, h2, r2⟩ := trodAll_cons r1
  obtain ⟨rfl, rfl, rfl⟩ := trodAll_nil r2
  obtain rfl : args = #[v0, v1, v2] := by cases args; simp_all
  obtain ⟨rfl, rfl⟩ := trodVars_none hV
  have k0 := h0
  have lt0 : ∀ x ∈ p0, x.block < W.heap.size := by obtain ⟨m, hm⟩ := k0; exact DataW.trod_lt m _ _ _ hm
  obtain ⟨x0, y0, z0, ao0, L0, cap0, rfl, hl0, hm0⟩ := open_field (hval 0 25 v0 rfl rfl) h0
  have k1 := h1
  have lt1 : ∀ x ∈ p1, x.block < W.heap.size := by obtain ⟨m, hm⟩ := k1; exact DataW.trod_lt m _ _ _ hm
  obtain ⟨x1, e1, -, -, -⟩ := open_int Try.underlying3 (hval 1 3 v1 rfl rfl) h1
  subst e1
  have k2 := h2
  have lt2 : ∀ x ∈ p2, x.block < W.heap.size := by obtain ⟨m, hm⟩ := k2; exact DataW.trod_lt m _ _ _ hm
  obtain ⟨po2, M2, pc2, qo2, N2, qc2, so2, B2, sc2, rfl, hkc2, hkl2, hkm2, hkz2, hqc2, hql2, hqm2, hqz2, hsc2, hsl2, hsm2, hsz2⟩ := open_three (hval 2 62 v2 rfl rfl) h2
  clear hA0 hval0
  refine (fermiNear_walk x0 y0 z0 ao0 L0 cap0 x1 po2 M2 pc2 qo2 N2 qc2 so2 B2 sc2 W hl0 hm0 hkc2 hkl2 hkm2 hkz2 hqc2 hql2 hqm2 hqz2 hsc2 hsl2 hsm2 hsz2).mono fun e W' ⟨he, bel⟩ => ?_
  subst he
  exact ⟨_, rfl, _, _, _, [], _, [], hW', trodAll_mk1 (shut_bool Try.underlying4 _), (trodAll_cons_mk (Below.trod laidOut (by kernel_rfl) (of_decide_eq_true (by kernel_rfl)) k0 bel lt0) (trodAll_cons_mk (Below.trod laidOut (by kernel_rfl) (of_decide_eq_true (by kernel_rfl)) k1 bel lt1) (trodAll_cons_mk (Below.trod laidOut (by kernel_rfl) (of_decide_eq_true (by kernel_rfl)) k2 bel lt2) trodAll_mk0))), rfl, bel.frame _, fun h => by cases h⟩

theorem fermiNear_jf9 : (Rows.fermiNearRow.inPlace == Try.prog.inPlace 15) = true := by kernel_rfl
theorem fermiNear_jf10 : (Rows.fermiNearRow.unfollowed == Try.prog.unfollowed 15) = true := by kernel_rfl
theorem fermiNear_jf11 : (Rows.fermiNearRow.recurses == Try.prog.recurses 15) = true := by kernel_rfl
theorem fermiNear_jf12 : (Rows.fermiNearRow.named == Try.prog.varsNamed 15) = true := by kernel_rfl
theorem fermiNear_facts : joinedFacts Try.prog 15 Try.f15 Rows.fermiNearSpec Rows.fermiNearRow = true := by
  unfold joinedFacts
  exact (band (band (band (band (band (band (band (band (band (band (band (band (band (band (band (band (band (band (band (band (band (band (band (band (band (band (band (band (band (band (band (by kernel_rfl) jf1) jf2) (by kernel_rfl)) (by kernel_rfl)) (by kernel_rfl)) jf6) (by kernel_rfl)) jf8) fermiNear_jf9) fermiNear_jf10) fermiNear_jf11) fermiNear_jf12) (by kernel_rfl)) (by kernel_rfl)) (by kernel_rfl)) (by kernel_rfl)) (by kernel_rfl)) (by kernel_rfl)) (by kernel_rfl)) (by kernel_rfl)) (by kernel_rfl)) (by kernel_rfl)) (by kernel_rfl)) jf24) jf25) jf26) jf27) (by kernel_rfl)) (by kernel_rfl)) (by kernel_rfl)) (by kernel_rfl))

theorem fermiNear_over : Rows.fermiNearRow.holds Try.pinned (OpenSpec.ofChange Rows.fermiNearSpec) :=
  OpenClaim.holds_of_wide 15 Try.f15 rfl rfl rfl rfl rfl rfl rfl ⟨rfl, rfl, rfl, rfl, rfl⟩ rfl rfl rfl rfl rfl (by kernel_rfl) Try.func15 fermiNear_facts
    (of_decide_eq_true (by kernel_rfl)) (by unfold Func.isWrapper; first | (rw [if_pos (by decide +kernel)]; kernel_rfl) | (rw [if_neg (by decide +kernel)]; exact ⟨rfl, rfl⟩))
    (fun os started H enc _ => fermiNear_lifted os started H enc)

theorem fermiNear_holds : Rows.FermiNearSaid := fermiNear_over
#print axioms fermiNear_holds

end Go.Proofs.Ytopffllomiojmaa
