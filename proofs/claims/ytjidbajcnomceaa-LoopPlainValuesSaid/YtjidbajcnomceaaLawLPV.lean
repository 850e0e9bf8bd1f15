/- LoopPlainValues: a path and its plain path have the same trace, a sum and its plain form the same value, for all fields, paths and sums.
Conditions: none. -/
import Derived.Test.YtjidbajcnomceaaLxC
import Derived.Test.YtjidbajcnomceaaLoopH
import Derived.Test.YtjidbajcnomceaaLooC
import Derived.Test.YtjidbajcnomceaaOpen4
import Derived.Test.YtjidbajcnomceaaWlkA
import Derived.Test.YtjidbajcnomceaaJFacts
namespace Go.Proofs.Ytjidbajcnomceaa
set_option linter.unusedVariables false
set_option linter.unusedSimpArgs false
set_option maxRecDepth 1000000
open Go.ChangeShapes Go.WideShapes Go.ChangeAt Go.RowKit
open Um Tm Lm

set_option maxHeartbeats 6400000 in
theorem lpv_00 (a b c s x1 y1 r1 x2 y2 r2 x3 y3 r3 x4 y4 r4 rp rm : Int) (fo ao lo : Option Addr) (cap pc lc : Nat) (L : List Q) (p q : List Int) (l : List E) (M : List Trm) (w : World) (hm : LiesO w fo L) (hp : LiesOI w ao p) (hl : Trs w lo l) (h100 : p.length ≤ 100)
    (hLg : ∀ W : World, Calls Try.prog 30 #[.agg #[.int .i64 a, .int .i64 b, .int .i64 c, .slice fo L.length cap]] W fun e w' => e = .returned (.bool false) ∧ Below W.heap.size W w')
    (hM : ∀ W : World, Trs W lo l → Calls Try.prog 15 #[.slice lo l.length lc] W fun e w' => e = .returned (.bool false) ∧ Below W.heap.size W w')
    (t1 : TrN a b c s fo cap L p x1 y1 r1)
    (hP : ∀ W : World, LiesOI W ao p → Calls Try.prog 11 #[.slice ao p.length pc] W fun e w' => (∃ (a1 : Option Addr) (c1 : Nat), e = .returned (.tuple #[.slice a1 q.length c1, .int .i64 rp]) ∧ LiesOI w' a1 q) ∧ Below W.heap.size W w')
    (t2 : TrN a b c s fo cap L q x2 y2 r2)
    (v1 : VaN a b c s fo cap L (tm l) x3 y3 r3)
    (hPl : ∀ W : World, Trs W lo l → Calls Try.prog 17 #[.slice lo l.length lc] W fun e w' => Ans M rm e w' ∧ Below W.heap.size W w')
    (v2 : VaN a b c s fo cap L M x4 y4 r4)
    (e1 : r1 = 0)
    (e2 : rp = 0)
    (e3 : r2 = 0)
    (e4 : x2 = x1)
    (e5 : y2 = y1)
    (d1 : r3 ≠ 0)
    : Calls Try.prog 8 #[.agg #[.int .i64 a, .int .i64 b, .int .i64 c, .slice fo L.length cap], .agg #[.int .i64 s, .slice ao p.length pc], .slice lo l.length lc] w fun e w' => e = .returned (.bool true) ∧ Below w.heap.size w w' := by
  have kn := known3_any
  have H0 := Lib.hid hm
  have HP0 := Lib.hid hp
  have HL0 := Lib.hid hl
  have k1 := t1.ex
  have k2 := t2.ex
  have k3 := v1.ex
  have k4 := v2.ex
  have i0 : ¬ (100 : Int) < (p.length : Int) := by omega
  subst e1 e2 e3 e4 e5
  have q3 : (r3 != 0) = true := by simpa using d1
  clear d1
  clear hm hp hl t1 t2 v1 v2 h100
  go_enter Try.func8, Try.ntmps8
  go_wp2_with (fail)
  refine (hLg _).mono ?_
  rintro e w1 ⟨rfl, hw1⟩
  have bw1 : Below w.heap.size w w1 := bel2 hw1
  have TF1 := Lib.hid (FW.n2a.later hw1)
  have TP1 := Lib.hid (C2.n2b.later hw1)
  have H1 := Lib.hid (H0.out.later bw1)
  have HP1 := Lib.hid (HP0.out.later bw1)
  have HL1 := Lib.hid (HL0.out.later bw1)
  have HB1 := Lib.hid bw1
  clear hw1 bw1 H0 HP0 HL0
  obtain ⟨tf1_0, tf1_1, tf1_2, tf1_3, tf1_4, tf1_5⟩ := TF1.out
  obtain ⟨tp1_0, tp1_1, tp1_2, tp1_3⟩ := TP1.out
  go_wp2_with (fail)
  refine (hM _ (HL1.out)).mono ?_
  rintro e w2 ⟨rfl, hw2⟩
  clear tf1_0 tf1_1 tf1_2 tf1_3 tf1_4 tf1_5 tp1_0 tp1_1 tp1_2 tp1_3
  have bw2 : Below w1.heap.size w1 w2 := hw2
  have H2 := Lib.hid (H1.out.later bw2)
  have HP2 := Lib.hid (HP1.out.later bw2)
  have HL2 := Lib.hid (HL1.out.later bw2)
  have TF2 := Lib.hid (TF1.out.later bw2)
  have TP2 := Lib.hid (TP1.out.later bw2)
  have HB2 := Lib.hid (HB1.out.trans (bw2.mono HB1.out.size))
  clear hw2 bw2 H1 HP1 HL1 TF1 TP1 HB1
  obtain ⟨tf2_0, tf2_1, tf2_2, tf2_3, tf2_4, tf2_5⟩ := TF2.out
  obtain ⟨tp2_0, tp2_1, tp2_2, tp2_3⟩ := TP2.out
  go_wp2_with (fail)
  refine (k1 _ _ _ (H2.out) (HP2.out)).mono ?_
  rintro e w3 ⟨rfl, hw3⟩
  clear tf2_0 tf2_1 tf2_2 tf2_3 tf2_4 tf2_5 tp2_0 tp2_1 tp2_2 tp2_3
  have bw3 : Below w2.heap.size w2 w3 := hw3
  have H3 := Lib.hid (H2.out.later bw3)
  have HP3 := Lib.hid (HP2.out.later bw3)
  have HL3 := Lib.hid (HL2.out.later bw3)
  have TF3 := Lib.hid (TF2.out.later bw3)
  have TP3 := Lib.hid (TP2.out.later bw3)
  have HB3 := Lib.hid (HB2.out.trans (bw3.mono HB2.out.size))
  clear hw3 bw3 H2 HP2 HL2 TF2 TP2 HB2
  obtain ⟨tf3_0, tf3_1, tf3_2, tf3_3, tf3_4, tf3_5⟩ := TF3.out
  obtain ⟨tp3_0, tp3_1, tp3_2, tp3_3⟩ := TP3.out
  go_wp2_with (fail)
  refine (hP _ (HP3.out.later ba1)).mono ?_
  rintro e w4 ⟨⟨a1, c1, rfl, hq⟩, hw4⟩
  clear tf3_0 tf3_1 tf3_2 tf3_3 tf3_4 tf3_5 tp3_0 tp3_1 tp3_2 tp3_3
  have bw4 : Below w3.heap.size w3 w4 := bel1 hw4
  have TA4 := Lib.hid (C2.n1.later hw4)
  have H4 := Lib.hid (H3.out.later bw4)
  have HP4 := Lib.hid (HP3.out.later bw4)
  have HL4 := Lib.hid (HL3.out.later bw4)
  have TF4 := Lib.hid (TF3.out.later bw4)
  have TP4 := Lib.hid (TP3.out.later bw4)
  have HB4 := Lib.hid (HB3.out.trans (bw4.mono HB3.out.size))
  have HQ4 := Lib.hid hq
  clear hq
  clear hw4 bw4 H3 HP3 HL3 TF3 TP3 HB3
  obtain ⟨tf4_0, tf4_1, tf4_2, tf4_3, tf4_4, tf4_5⟩ := TF4.out
  obtain ⟨tp4_0, tp4_1, tp4_2, tp4_3⟩ := TP4.out
  go_wp2_with (fail)
  refine (k2 _ _ _ (H4.out) (HQ4.out)).mono ?_
  rintro e w5 ⟨rfl, hw5⟩
  clear tf4_0 tf4_1 tf4_2 tf4_3 tf4_4 tf4_5 tp4_0 tp4_1 tp4_2 tp4_3
  have bw5 : Below w4.heap.size w4 w5 := hw5
  have H5 := Lib.hid (H4.out.later bw5)
  have HP5 := Lib.hid (HP4.out.later bw5)
  have HL5 := Lib.hid (HL4.out.later bw5)
  have TF5 := Lib.hid (TF4.out.later bw5)
  have TP5 := Lib.hid (TP4.out.later bw5)
  have TA5 := Lib.hid (TA4.out.later bw5)
  have HQ5 := Lib.hid (HQ4.out.later bw5)
  have HB5 := Lib.hid (HB4.out.trans (bw5.mono HB4.out.size))
  clear hw5 bw5 H4 HP4 HL4 TF4 TP4 TA4 HQ4 HB4
  obtain ⟨tf5_0, tf5_1, tf5_2, tf5_3, tf5_4, tf5_5⟩ := TF5.out
  obtain ⟨tp5_0, tp5_1, tp5_2, tp5_3⟩ := TP5.out
  obtain ⟨ta5_0, ta5_1, ta5_2, ta5_3⟩ := TA5.out
  go_wp2_with (fail)
  refine (k3 _ _ _ _ rfl (H5.out.later ba1) (HL5.out.later ba1)).mono ?_
  rintro e w6 ⟨rfl, hw6⟩
  clear tf5_0 tf5_1 tf5_2 tf5_3 tf5_4 tf5_5 tp5_0 tp5_1 tp5_2 tp5_3 ta5_0 ta5_1 ta5_2 ta5_3
  have bw6 : Below w5.heap.size w5 w6 := bel1 hw6
  have TB6 := Lib.hid (C2.n1.later hw6)
  have H6 := Lib.hid (H5.out.later bw6)
  have HP6 := Lib.hid (HP5.out.later bw6)
  have HL6 := Lib.hid (HL5.out.later bw6)
  have TF6 := Lib.hid (TF5.out.later bw6)
  have TP6 := Lib.hid (TP5.out.later bw6)
  have TA6 := Lib.hid (TA5.out.later bw6)
  have HQ6 := Lib.hid (HQ5.out.later bw6)
  have HB6 := Lib.hid (HB5.out.trans (bw6.mono HB5.out.size))
  clear hw6 bw6 H5 HP5 HL5 TF5 TP5 TA5 HQ5 HB5
  obtain ⟨tf6_0, tf6_1, tf6_2, tf6_3, tf6_4, tf6_5⟩ := TF6.out
  obtain ⟨tp6_0, tp6_1, tp6_2, tp6_3⟩ := TP6.out
  go_wp2_with (fail)
  refine (hPl _ (HL6.out.later ba1)).mono ?_
  rintro e w7 ⟨⟨a3, c3, es, rfl, hT, hes, -, -⟩, hw7⟩
  clear tf6_0 tf6_1 tf6_2 tf6_3 tf6_4 tf6_5 tp6_0 tp6_1 tp6_2 tp6_3
  have bw7 : Below w6.heap.size w6 w7 := bel1 hw7
  have TV7 := Lib.hid (C2.n1.later hw7)
  have H7 := Lib.hid (H6.out.later bw7)
  have HP7 := Lib.hid (HP6.out.later bw7)
  have HL7 := Lib.hid (HL6.out.later bw7)
  have TF7 := Lib.hid (TF6.out.later bw7)
  have TP7 := Lib.hid (TP6.out.later bw7)
  have TA7 := Lib.hid (TA6.out.later bw7)
  have HQ7 := Lib.hid (HQ6.out.later bw7)
  have TB7 := Lib.hid (TB6.out.later bw7)
  have HB7 := Lib.hid (HB6.out.trans (bw7.mono HB6.out.size))
  have HT7 := Lib.hid hT
  clear hT
  clear hw7 bw7 H6 HP6 HL6 TF6 TP6 TA6 HQ6 TB6 HB6
  obtain ⟨tf7_0, tf7_1, tf7_2, tf7_3, tf7_4, tf7_5⟩ := TF7.out
  obtain ⟨tp7_0, tp7_1, tp7_2, tp7_3⟩ := TP7.out
  go_wp2_with (fail)
  refine (k4 _ _ _ _ hes (H7.out) (HT7.out)).mono ?_
  rintro e w8 ⟨rfl, hw8⟩
  clear tf7_0 tf7_1 tf7_2 tf7_3 tf7_4 tf7_5 tp7_0 tp7_1 tp7_2 tp7_3
  have bw8 : Below w7.heap.size w7 w8 := hw8
  have H8 := Lib.hid (H7.out.later bw8)
  have HP8 := Lib.hid (HP7.out.later bw8)
  have HL8 := Lib.hid (HL7.out.later bw8)
  have TF8 := Lib.hid (TF7.out.later bw8)
  have TP8 := Lib.hid (TP7.out.later bw8)
  have TA8 := Lib.hid (TA7.out.later bw8)
  have HQ8 := Lib.hid (HQ7.out.later bw8)
  have TB8 := Lib.hid (TB7.out.later bw8)
  have TV8 := Lib.hid (TV7.out.later bw8)
  have HT8 := Lib.hid (HT7.out.later bw8)
  have HB8 := Lib.hid (HB7.out.trans (bw8.mono HB7.out.size))
  clear hw8 bw8 H7 HP7 HL7 TF7 TP7 TA7 HQ7 TB7 TV7 HT7 HB7
  obtain ⟨tv8_0, tv8_1, tv8_2, tv8_3⟩ := TV8.out
  go_wp2_with (fail)
  refine (kn _).mono ?_
  rintro e wz ⟨rfl, hwz⟩
  go_wp2
  go_ret
  have hbz := HB8.out
  exact ⟨rfl, by repeat (first | (with_reducible exact Below.refl _ _) | (with_reducible refine Below.setCell ?_ ?_ _) | (with_reducible refine Below.drew ?_) | (with_reducible refine Below.alloc ?_ ?_ _) | (with_reducible refine Below.trans ?_ (Below.mono hwz ?_)) | (with_reducible refine Below.trans ?_ (Below.mono hbz ?_)) | (with_reducible exact hwz.size) | (with_reducible exact hbz.size) | omega | (simp <;> omega) | (simp <;> (have s := hwz.size; omega)) | (simp <;> (have s := hbz.size; omega)) | (have s0 := hwz.size; (try simp at s0); have s1 := hbz.size; (try simp at s1); (try simp); omega))⟩

set_option maxHeartbeats 6400000 in
theorem lpv_01 (a b c s x1 y1 r1 x2 y2 r2 x3 y3 r3 x4 y4 r4 rp rm : Int) (fo ao lo : Option Addr) (cap pc lc : Nat) (L : List Q) (p q : List Int) (l : List E) (M : List Trm) (w : World) (hm : LiesO w fo L) (hp : LiesOI w ao p) (hl : Trs w lo l) (h100 : p.length ≤ 100)
    (hLg : ∀ W : World, Calls Try.prog 30 #[.agg #[.int .i64 a, .int .i64 b, .int .i64 c, .slice fo L.length cap]] W fun e w' => e = .returned (.bool false) ∧ Below W.heap.size W w')
    (hM : ∀ W : World, Trs W lo l → Calls Try.prog 15 #[.slice lo l.length lc] W fun e w' => e = .returned (.bool false) ∧ Below W.heap.size W w')
    (t1 : TrN a b c s fo cap L p x1 y1 r1)
    (hP : ∀ W : World, LiesOI W ao p → Calls Try.prog 11 #[.slice ao p.length pc] W fun e w' => (∃ (a1 : Option Addr) (c1 : Nat), e = .returned (.tuple #[.slice a1 q.length c1, .int .i64 rp]) ∧ LiesOI w' a1 q) ∧ Below W.heap.size W w')
    (t2 : TrN a b c s fo cap L q x2 y2 r2)
    (v1 : VaN a b c s fo cap L (tm l) x3 y3 r3)
    (hPl : ∀ W : World, Trs W lo l → Calls Try.prog 17 #[.slice lo l.length lc] W fun e w' => Ans M rm e w' ∧ Below W.heap.size W w')
    (v2 : VaN a b c s fo cap L M x4 y4 r4)
    (e1 : r1 = 0)
    (e2 : rp = 0)
    (e3 : r2 = 0)
    (e4 : x2 = x1)
    (e5 : y2 = y1)
    (d1 : r3 = 0)
    (d2 : rm ≠ 0)
    : Calls Try.prog 8 #[.agg #[.int .i64 a, .int .i64 b, .int .i64 c, .slice fo L.length cap], .agg #[.int .i64 s, .slice ao p.length pc], .slice lo l.length lc] w fun e w' => e = .returned (.bool true) ∧ Below w.heap.size w w' := by
  have kn := known3_any
  have H0 := Lib.hid hm
  have HP0 := Lib.hid hp
  have HL0 := Lib.hid hl
  have k1 := t1.ex
  have k2 := t2.ex
  have k3 := v1.ex
  have k4 := v2.ex
  have i0 : ¬ (100 : Int) < (p.length : Int) := by omega
  subst e1 e2 e3 e4 e5
  have q3 : (rm != 0) = true := by simpa using d2
  subst d1
  clear d2
  clear hm hp hl t1 t2 v1 v2 h100
  go_enter Try.func8, Try.ntmps8
  go_wp2_with (fail)
  refine (hLg _).mono ?_
  rintro e w1 ⟨rfl, hw1⟩
  have bw1 : Below w.heap.size w w1 := bel2 hw1
  have TF1 := Lib.hid (FW.n2a.later hw1)
  have TP1 := Lib.hid (C2.n2b.later hw1)
  have H1 := Lib.hid (H0.out.later bw1)
  have HP1 := Lib.hid (HP0.out.later bw1)
  have HL1 := Lib.hid (HL0.out.later bw1)
  have HB1 := Lib.hid bw1
  clear hw1 bw1 H0 HP0 HL0
  obtain ⟨tf1_0, tf1_1, tf1_2, tf1_3, tf1_4, tf1_5⟩ := TF1.out
  obtain ⟨tp1_0, tp1_1, tp1_2, tp1_3⟩ := TP1.out
  go_wp2_with (fail)
  refine (hM _ (HL1.out)).mono ?_
  rintro e w2 ⟨rfl, hw2⟩
  clear tf1_0 tf1_1 tf1_2 tf1_3 tf1_4 tf1_5 tp1_0 tp1_1 tp1_2 tp1_3
  have bw2 : Below w1.heap.size w1 w2 := hw2
  have H2 := Lib.hid (H1.out.later bw2)
  have HP2 := Lib.hid (HP1.out.later bw2)
  have HL2 := Lib.hid (HL1.out.later bw2)
  have TF2 := Lib.hid (TF1.out.later bw2)
  have TP2 := Lib.hid (TP1.out.later bw2)
  have HB2 := Lib.hid (HB1.out.trans (bw2.mono HB1.out.size))
  clear hw2 bw2 H1 HP1 HL1 TF1 TP1 HB1
  obtain ⟨tf2_0, tf2_1, tf2_2, tf2_3, tf2_4, tf2_5⟩ := TF2.out
  obtain ⟨tp2_0, tp2_1, tp2_2, tp2_3⟩ := TP2.out
  go_wp2_with (fail)
  refine (k1 _ _ _ (H2.out) (HP2.out)).mono ?_
  rintro e w3 ⟨rfl, hw3⟩
  clear tf2_0 tf2_1 tf2_2 tf2_3 tf2_4 tf2_5 tp2_0 tp2_1 tp2_2 tp2_3
  have bw3 : Below w2.heap.size w2 w3 := hw3
  have H3 := Lib.hid (H2.out.later bw3)
  have HP3 := Lib.hid (HP2.out.later bw3)
  have HL3 := Lib.hid (HL2.out.later bw3)
  have TF3 := Lib.hid (TF2.out.later bw3)
  have TP3 := Lib.hid (TP2.out.later bw3)
  have HB3 := Lib.hid (HB2.out.trans (bw3.mono HB2.out.size))
  clear hw3 bw3 H2 HP2 HL2 TF2 TP2 HB2
  obtain ⟨tf3_0, tf3_1, tf3_2, tf3_3, tf3_4, tf3_5⟩ := TF3.out
  obtain ⟨tp3_0, tp3_1, tp3_2, tp3_3⟩ := TP3.out
  go_wp2_with (fail)
  refine (hP _ (HP3.out.later ba1)).mono ?_
  rintro e w4 ⟨⟨a1, c1, rfl, hq⟩, hw4⟩
  clear tf3_0 tf3_1 tf3_2 tf3_3 tf3_4 tf3_5 tp3_0 tp3_1 tp3_2 tp3_3
  have bw4 : Below w3.heap.size w3 w4 := bel1 hw4
  have TA4 := Lib.hid (C2.n1.later hw4)
  have H4 := Lib.hid (H3.out.later bw4)
  have HP4 := Lib.hid (HP3.out.later bw4)
  have HL4 := Lib.hid (HL3.out.later bw4)
  have TF4 := Lib.hid (TF3.out.later bw4)
  have TP4 := Lib.hid (TP3.out.later bw4)
  have HB4 := Lib.hid (HB3.out.trans (bw4.mono HB3.out.size))
  have HQ4 := Lib.hid hq
  clear hq
  clear hw4 bw4 H3 HP3 HL3 TF3 TP3 HB3
  obtain ⟨tf4_0, tf4_1, tf4_2, tf4_3, tf4_4, tf4_5⟩ := TF4.out
  obtain ⟨tp4_0, tp4_1, tp4_2, tp4_3⟩ := TP4.out
  go_wp2_with (fail)
  refine (k2 _ _ _ (H4.out) (HQ4.out)).mono ?_
  rintro e w5 ⟨rfl, hw5⟩
  clear tf4_0 tf4_1 tf4_2 tf4_3 tf4_4 tf4_5 tp4_0 tp4_1 tp4_2 tp4_3
  have bw5 : Below w4.heap.size w4 w5 := hw5
  have H5 := Lib.hid (H4.out.later bw5)
  have HP5 := Lib.hid (HP4.out.later bw5)
  have HL5 := Lib.hid (HL4.out.later bw5)
  have TF5 := Lib.hid (TF4.out.later bw5)
  have TP5 := Lib.hid (TP4.out.later bw5)
  have TA5 := Lib.hid (TA4.out.later bw5)
  have HQ5 := Lib.hid (HQ4.out.later bw5)
  have HB5 := Lib.hid (HB4.out.trans (bw5.mono HB4.out.size))
  clear hw5 bw5 H4 HP4 HL4 TF4 TP4 TA4 HQ4 HB4
  obtain ⟨tf5_0, tf5_1, tf5_2, tf5_3, tf5_4, tf5_5⟩ := TF5.out
  obtain ⟨tp5_0, tp5_1, tp5_2, tp5_3⟩ := TP5.out
  obtain ⟨ta5_0, ta5_1, ta5_2, ta5_3⟩ := TA5.out
  go_wp2_with (fail)
  refine (k3 _ _ _ _ rfl (H5.out.later ba1) (HL5.out.later ba1)).mono ?_
  rintro e w6 ⟨rfl, hw6⟩
  clear tf5_0 tf5_1 tf5_2 tf5_3 tf5_4 tf5_5 tp5_0 tp5_1 tp5_2 tp5_3 ta5_0 ta5_1 ta5_2 ta5_3
  have bw6 : Below w5.heap.size w5 w6 := bel1 hw6
  have TB6 := Lib.hid (C2.n1.later hw6)
  have H6 := Lib.hid (H5.out.later bw6)
  have HP6 := Lib.hid (HP5.out.later bw6)
  have HL6 := Lib.hid (HL5.out.later bw6)
  have TF6 := Lib.hid (TF5.out.later bw6)
  have TP6 := Lib.hid (TP5.out.later bw6)
  have TA6 := Lib.hid (TA5.out.later bw6)
  have HQ6 := Lib.hid (HQ5.out.later bw6)
  have HB6 := Lib.hid (HB5.out.trans (bw6.mono HB5.out.size))
  clear hw6 bw6 H5 HP5 HL5 TF5 TP5 TA5 HQ5 HB5
  obtain ⟨tf6_0, tf6_1, tf6_2, tf6_3, tf6_4, tf6_5⟩ := TF6.out
  obtain ⟨tp6_0, tp6_1, tp6_2, tp6_3⟩ := TP6.out
  go_wp2_with (fail)
  refine (hPl _ (HL6.out.later ba1)).mono ?_
  rintro e w7 ⟨⟨a3, c3, es, rfl, hT, hes, -, -⟩, hw7⟩
  clear tf6_0 tf6_1 tf6_2 tf6_3 tf6_4 tf6_5 tp6_0 tp6_1 tp6_2 tp6_3
  have bw7 : Below w6.heap.size w6 w7 := bel1 hw7
  have TV7 := Lib.hid (C2.n1.later hw7)
  have H7 := Lib.hid (H6.out.later bw7)
  have HP7 := Lib.hid (HP6.out.later bw7)
  have HL7 := Lib.hid (HL6.out.later bw7)
  have TF7 := Lib.hid (TF6.out.later bw7)
  have TP7 := Lib.hid (TP6.out.later bw7)
  have TA7 := Lib.hid (TA6.out.later bw7)
  have HQ7 := Lib.hid (HQ6.out.later bw7)
  have TB7 := Lib.hid (TB6.out.later bw7)
  have HB7 := Lib.hid (HB6.out.trans (bw7.mono HB6.out.size))
  have HT7 := Lib.hid hT
  clear hT
  clear hw7 bw7 H6 HP6 HL6 TF6 TP6 TA6 HQ6 TB6 HB6
  obtain ⟨tf7_0, tf7_1, tf7_2, tf7_3, tf7_4, tf7_5⟩ := TF7.out
  obtain ⟨tp7_0, tp7_1, tp7_2, tp7_3⟩ := TP7.out
  go_wp2_with (fail)
  refine (k4 _ _ _ _ hes (H7.out) (HT7.out)).mono ?_
  rintro e w8 ⟨rfl, hw8⟩
  clear tf7_0 tf7_1 tf7_2 tf7_3 tf7_4 tf7_5 tp7_0 tp7_1 tp7_2 tp7_3
  have bw8 : Below w7.heap.size w7 w8 := hw8
  have H8 := Lib.hid (H7.out.later bw8)
  have HP8 := Lib.hid (HP7.out.later bw8)
  have HL8 := Lib.hid (HL7.out.later bw8)
  have TF8 := Lib.hid (TF7.out.later bw8)
  have TP8 := Lib.hid (TP7.out.later bw8)
  have TA8 := Lib.hid (TA7.out.later bw8)
  have HQ8 := Lib.hid (HQ7.out.later bw8)
  have TB8 := Lib.hid (TB7.out.later bw8)
  have TV8 := Lib.hid (TV7.out.later bw8)
  have HT8 := Lib.hid (HT7.out.later bw8)
  have HB8 := Lib.hid (HB7.out.trans (bw8.mono HB7.out.size))
  clear hw8 bw8 H7 HP7 HL7 TF7 TP7 TA7 HQ7 TB7 TV7 HT7 HB7
  obtain ⟨tv8_0, tv8_1, tv8_2, tv8_3⟩ := TV8.out
  go_wp2_with (fail)
  refine (kn _).mono ?_
  rintro e wz ⟨rfl, hwz⟩
  go_wp2
  go_ret
  have hbz := HB8.out
  exact ⟨rfl, by repeat (first | (with_reducible exact Below.refl _ _) | (with_reducible refine Below.setCell ?_ ?_ _) | (with_reducible refine Below.drew ?_) | (with_reducible refine Below.alloc ?_ ?_ _) | (with_reducible refine Below.trans ?_ (Below.mono hwz ?_)) | (with_reducible refine Below.trans ?_ (Below.mono hbz ?_)) | (with_reducible exact hwz.size) | (with_reducible exact hbz.size) | omega | (simp <;> omega) | (simp <;> (have s := hwz.size; omega)) | (simp <;> (have s := hbz.size; omega)) | (have s0 := hwz.size; (try simp at s0); have s1 := hbz.size; (try simp at s1); (try simp); omega))⟩

set_option maxHeartbeats 6400000 in
theorem lpv_02 (a b c s x1 y1 r1 x2 y2 r2 x3 y3 r3 x4 y4 r4 rp rm : Int) (fo ao lo : Option Addr) (cap pc lc : Nat) (L : List Q) (p q : List Int) (l : List E) (M : List Trm) (w : World) (hm : LiesO w fo L) (hp : LiesOI w ao p) (hl : Trs w lo l) (h100 : p.length ≤ 100)
    (hLg : ∀ W : World, Calls Try.prog 30 #[.agg #[.int .i64 a, .int .i64 b, .int .i64 c, .slice fo L.length cap]] W fun e w' => e = .returned (.bool false) ∧ Below W.heap.size W w')
    (hM : ∀ W : World, Trs W lo l → Calls Try.prog 15 #[.slice lo l.length lc] W fun e w' => e = .returned (.bool false) ∧ Below W.heap.size W w')
    (t1 : TrN a b c s fo cap L p x1 y1 r1)
    (hP : ∀ W : World, LiesOI W ao p → Calls Try.prog 11 #[.slice ao p.length pc] W fun e w' => (∃ (a1 : Option Addr) (c1 : Nat), e = .returned (.tuple #[.slice a1 q.length c1, .int .i64 rp]) ∧ LiesOI w' a1 q) ∧ Below W.heap.size W w')
    (t2 : TrN a b c s fo cap L q x2 y2 r2)
    (v1 : VaN a b c s fo cap L (tm l) x3 y3 r3)
    (hPl : ∀ W : World, Trs W lo l → Calls Try.prog 17 #[.slice lo l.length lc] W fun e w' => Ans M rm e w' ∧ Below W.heap.size W w')
    (v2 : VaN a b c s fo cap L M x4 y4 r4)
    (e1 : r1 = 0)
    (e2 : rp = 0)
    (e3 : r2 = 0)
    (e4 : x2 = x1)
    (e5 : y2 = y1)
    (d1 : r3 = 0)
    (d2 : rm = 0)
    (d3 : r4 = 0)
    (d4 : x4 = x3)
    (d5 : y4 = y3)
    : Calls Try.prog 8 #[.agg #[.int .i64 a, .int .i64 b, .int .i64 c, .slice fo L.length cap], .agg #[.int .i64 s, .slice ao p.length pc], .slice lo l.length lc] w fun e w' => e = .returned (.bool true) ∧ Below w.heap.size w w' := by
  have kn := known3_any
  have H0 := Lib.hid hm
  have HP0 := Lib.hid hp
  have HL0 := Lib.hid hl
  have k1 := t1.ex
  have k2 := t2.ex
  have k3 := v1.ex
  have k4 := v2.ex
  have i0 : ¬ (100 : Int) < (p.length : Int) := by omega
  subst e1 e2 e3 e4 e5
  subst d1 d2 d3 d4 d5
  clear hm hp hl t1 t2 v1 v2 h100
  go_enter Try.func8, Try.ntmps8
  go_wp2_with (fail)
  refine (hLg _).mono ?_
  rintro e w1 ⟨rfl, hw1⟩
  have bw1 : Below w.heap.size w w1 := bel2 hw1
  have TF1 := Lib.hid (FW.n2a.later hw1)
  have TP1 := Lib.hid (C2.n2b.later hw1)
  have H1 := Lib.hid (H0.out.later bw1)
  have HP1 := Lib.hid (HP0.out.later bw1)
  have HL1 := Lib.hid (HL0.out.later bw1)
  have HB1 := Lib.hid bw1
  clear hw1 bw1 H0 HP0 HL0
  obtain ⟨tf1_0, tf1_1, tf1_2, tf1_3, tf1_4, tf1_5⟩ := TF1.out
  obtain ⟨tp1_0, tp1_1, tp1_2, tp1_3⟩ := TP1.out
  go_wp2_with (fail)
  refine (hM _ (HL1.out)).mono ?_
  rintro e w2 ⟨rfl, hw2⟩
  clear tf1_0 tf1_1 tf1_2 tf1_3 tf1_4 tf1_5 tp1_0 tp1_1 tp1_2 tp1_3
  have bw2 : Below w1.heap.size w1 w2 := hw2
  have H2 := Lib.hid (H1.out.later bw2)
  have HP2 := Lib.hid (HP1.out.later bw2)
  have HL2 := Lib.hid (HL1.out.later bw2)
  have TF2 := Lib.hid (TF1.out.later bw2)
  have TP2 := Lib.hid (TP1.out.later bw2)
  have HB2 := Lib.hid (HB1.out.trans (bw2.mono HB1.out.size))
  clear hw2 bw2 H1 HP1 HL1 TF1 TP1 HB1
  obtain ⟨tf2_0, tf2_1, tf2_2, tf2_3, tf2_4, tf2_5⟩ := TF2.out
  obtain ⟨tp2_0, tp2_1, tp2_2, tp2_3⟩ := TP2.out
  go_wp2_with (fail)
  refine (k1 _ _ _ (H2.out) (HP2.out)).mono ?_
  rintro e w3 ⟨rfl, hw3⟩
  clear tf2_0 tf2_1 tf2_2 tf2_3 tf2_4 tf2_5 tp2_0 tp2_1 tp2_2 tp2_3
  have bw3 : Below w2.heap.size w2 w3 := hw3
  have H3 := Lib.hid (H2.out.later bw3)
  have HP3 := Lib.hid (HP2.out.later bw3)
  have HL3 := Lib.hid (HL2.out.later bw3)
  have TF3 := Lib.hid (TF2.out.later bw3)
  have TP3 := Lib.hid (TP2.out.later bw3)
  have HB3 := Lib.hid (HB2.out.trans (bw3.mono HB2.out.size))
  clear hw3 bw3 H2 HP2 HL2 TF2 TP2 HB2
  obtain ⟨tf3_0, tf3_1, tf3_2, tf3_3, tf3_4, tf3_5⟩ := TF3.out
  obtain ⟨tp3_0, tp3_1, tp3_2, tp3_3⟩ := TP3.out
  go_wp2_with (fail)
  refine (hP _ (HP3.out.later ba1)).mono ?_
  rintro e w4 ⟨⟨a1, c1, rfl, hq⟩, hw4⟩
  clear tf3_0 tf3_1 tf3_2 tf3_3 tf3_4 tf3_5 tp3_0 tp3_1 tp3_2 tp3_3
  have bw4 : Below w3.heap.size w3 w4 := bel1 hw4
  have TA4 := Lib.hid (C2.n1.later hw4)
  have H4 := Lib.hid (H3.out.later bw4)
  have HP4 := Lib.hid (HP3.out.later bw4)
  have HL4 := Lib.hid (HL3.out.later bw4)
  have TF4 := Lib.hid (TF3.out.later bw4)
  have TP4 := Lib.hid (TP3.out.later bw4)
  have HB4 := Lib.hid (HB3.out.trans (bw4.mono HB3.out.size))
  have HQ4 := Lib.hid hq
  clear hq
  clear hw4 bw4 H3 HP3 HL3 TF3 TP3 HB3
  obtain ⟨tf4_0, tf4_1, tf4_2, tf4_3, tf4_4, tf4_5⟩ := TF4.out
  obtain ⟨tp4_0, tp4_1, tp4_2, tp4_3⟩ := TP4.out
  go_wp2_with (fail)
  refine (k2 _ _ _ (H4.out) (HQ4.out)).mono ?_
  rintro e w5 ⟨rfl, hw5⟩
  clear tf4_0 tf4_1 tf4_2 tf4_3 tf4_4 tf4_5 tp4_0 tp4_1 tp4_2 tp4_3
  have bw5 : Below w4.heap.size w4 w5 := hw5
  have H5 := Lib.hid (H4.out.later bw5)
  have HP5 := Lib.hid (HP4.out.later bw5)
  have HL5 := Lib.hid (HL4.out.later bw5)
  have TF5 := Lib.hid (TF4.out.later bw5)
  have TP5 := Lib.hid (TP4.out.later bw5)
  have TA5 := Lib.hid (TA4.out.later bw5)
  have HQ5 := Lib.hid (HQ4.out.later bw5)
  have HB5 := Lib.hid (HB4.out.trans (bw5.mono HB4.out.size))
  clear hw5 bw5 H4 HP4 HL4 TF4 TP4 TA4 HQ4 HB4
  obtain ⟨tf5_0, tf5_1, tf5_2, tf5_3, tf5_4, tf5_5⟩ := TF5.out
  obtain ⟨tp5_0, tp5_1, tp5_2, tp5_3⟩ := TP5.out
  obtain ⟨ta5_0, ta5_1, ta5_2, ta5_3⟩ := TA5.out
  go_wp2_with (fail)
  refine (k3 _ _ _ _ rfl (H5.out.later ba1) (HL5.out.later ba1)).mono ?_
  rintro e w6 ⟨rfl, hw6⟩
  clear tf5_0 tf5_1 tf5_2 tf5_3 tf5_4 tf5_5 tp5_0 tp5_1 tp5_2 tp5_3 ta5_0 ta5_1 ta5_2 ta5_3
  have bw6 : Below w5.heap.size w5 w6 := bel1 hw6
  have TB6 := Lib.hid (C2.n1.later hw6)
  have H6 := Lib.hid (H5.out.later bw6)
  have HP6 := Lib.hid (HP5.out.later bw6)
  have HL6 := Lib.hid (HL5.out.later bw6)
  have TF6 := Lib.hid (TF5.out.later bw6)
  have TP6 := Lib.hid (TP5.out.later bw6)
  have TA6 := Lib.hid (TA5.out.later bw6)
  have HQ6 := Lib.hid (HQ5.out.later bw6)
  have HB6 := Lib.hid (HB5.out.trans (bw6.mono HB5.out.size))
  clear hw6 bw6 H5 HP5 HL5 TF5 TP5 TA5 HQ5 HB5
  obtain ⟨tf6_0, tf6_1, tf6_2, tf6_3, tf6_4, tf6_5⟩ := TF6.out
  obtain ⟨tp6_0, tp6_1, tp6_2, tp6_3⟩ := TP6.out
  go_wp2_with (fail)
  refine (hPl _ (HL6.out.later ba1)).mono ?_
  rintro e w7 ⟨⟨a3, c3, es, rfl, hT, hes, -, -⟩, hw7⟩
  clear tf6_0 tf6_1 tf6_2 tf6_3 tf6_4 tf6_5 tp6_0 tp6_1 tp6_2 tp6_3
  have bw7 : Below w6.heap.size w6 w7 := bel1 hw7
  have TV7 := Lib.hid (C2.n1.later hw7)
  have H7 := Lib.hid (H6.out.later bw7)
  have HP7 := Lib.hid (HP6.out.later bw7)
  have HL7 := Lib.hid (HL6.out.later bw7)
  have TF7 := Lib.hid (TF6.out.later bw7)
  have TP7 := Lib.hid (TP6.out.later bw7)
  have TA7 := Lib.hid (TA6.out.later bw7)
  have HQ7 := Lib.hid (HQ6.out.later bw7)
  have TB7 := Lib.hid (TB6.out.later bw7)
  have HB7 := Lib.hid (HB6.out.trans (bw7.mono HB6.out.size))
  have HT7 := Lib.hid hT
  clear hT
  clear hw7 bw7 H6 HP6 HL6 TF6 TP6 TA6 HQ6 TB6 HB6
  obtain ⟨tf7_0, tf7_1, tf7_2, tf7_3, tf7_4, tf7_5⟩ := TF7.out
  obtain ⟨tp7_0, tp7_1, tp7_2, tp7_3⟩ := TP7.out
  go_wp2_with (fail)
  refine (k4 _ _ _ _ hes (H7.out) (HT7.out)).mono ?_
  rintro e w8 ⟨rfl, hw8⟩
  clear tf7_0 tf7_1 tf7_2 tf7_3 tf7_4 tf7_5 tp7_0 tp7_1 tp7_2 tp7_3
  have bw8 : Below w7.heap.size w7 w8 := hw8
  have H8 := Lib.hid (H7.out.later bw8)
  have HP8 := Lib.hid (HP7.out.later bw8)
  have HL8 := Lib.hid (HL7.out.later bw8)
  have TF8 := Lib.hid (TF7.out.later bw8)
  have TP8 := Lib.hid (TP7.out.later bw8)
  have TA8 := Lib.hid (TA7.out.later bw8)
  have HQ8 := Lib.hid (HQ7.out.later bw8)
  have TB8 := Lib.hid (TB7.out.later bw8)
  have TV8 := Lib.hid (TV7.out.later bw8)
  have HT8 := Lib.hid (HT7.out.later bw8)
  have HB8 := Lib.hid (HB7.out.trans (bw8.mono HB7.out.size))
  clear hw8 bw8 H7 HP7 HL7 TF7 TP7 TA7 HQ7 TB7 TV7 HT7 HB7
  obtain ⟨tv8_0, tv8_1, tv8_2, tv8_3⟩ := TV8.out
  go_wp2_with (fail)
  refine (kn _).mono ?_
  rintro e wz ⟨rfl, hwz⟩
  go_wp2
  go_ret
  have hbz := HB8.out
  exact ⟨rfl, by repeat (first | (with_reducible exact Below.refl _ _) | (with_reducible refine Below.setCell ?_ ?_ _) | (with_reducible refine Below.drew ?_) | (with_reducible refine Below.alloc ?_ ?_ _) | (with_reducible refine Below.trans ?_ (Below.mono hwz ?_)) | (with_reducible refine Below.trans ?_ (Below.mono hbz ?_)) | (with_reducible exact hwz.size) | (with_reducible exact hbz.size) | omega | (simp <;> omega) | (simp <;> (have s := hwz.size; omega)) | (simp <;> (have s := hbz.size; omega)) | (have s0 := hwz.size; (try simp at s0); have s1 := hbz.size; (try simp at s1); (try simp); omega))⟩

set_option maxHeartbeats 6400000 in
theorem lpv_10 (a b c s x1 y1 r1 x2 y2 r2 x3 y3 r3 x4 y4 r4 rp rm : Int) (fo ao lo : Option Addr) (cap pc lc : Nat) (L : List Q) (p q : List Int) (l : List E) (M : List Trm) (w : World) (hm : LiesO w fo L) (hp : LiesOI w ao p) (hl : Trs w lo l) (h100 : p.length ≤ 100)
    (hLg : ∀ W : World, Calls Try.prog 30 #[.agg #[.int .i64 a, .int .i64 b, .int .i64 c, .slice fo L.length cap]] W fun e w' => e = .returned (.bool false) ∧ Below W.heap.size W w')
    (hM : ∀ W : World, Trs W lo l → Calls Try.prog 15 #[.slice lo l.length lc] W fun e w' => e = .returned (.bool false) ∧ Below W.heap.size W w')
    (t1 : TrN a b c s fo cap L p x1 y1 r1)
    (hP : ∀ W : World, LiesOI W ao p → Calls Try.prog 11 #[.slice ao p.length pc] W fun e w' => (∃ (a1 : Option Addr) (c1 : Nat), e = .returned (.tuple #[.slice a1 q.length c1, .int .i64 rp]) ∧ LiesOI w' a1 q) ∧ Below W.heap.size W w')
    (t2 : TrN a b c s fo cap L q x2 y2 r2)
    (v1 : VaN a b c s fo cap L (tm l) x3 y3 r3)
    (hPl : ∀ W : World, Trs W lo l → Calls Try.prog 17 #[.slice lo l.length lc] W fun e w' => Ans M rm e w' ∧ Below W.heap.size W w')
    (v2 : VaN a b c s fo cap L M x4 y4 r4)
    (e1 : r1 ≠ 0)
    (d1 : r3 ≠ 0)
    : Calls Try.prog 8 #[.agg #[.int .i64 a, .int .i64 b, .int .i64 c, .slice fo L.length cap], .agg #[.int .i64 s, .slice ao p.length pc], .slice lo l.length lc] w fun e w' => e = .returned (.bool true) ∧ Below w.heap.size w w' := by
  have kn := known3_any
  have H0 := Lib.hid hm
  have HP0 := Lib.hid hp
  have HL0 := Lib.hid hl
  have k1 := t1.ex
  have k2 := t2.ex
  have k3 := v1.ex
  have k4 := v2.ex
  have i0 : ¬ (100 : Int) < (p.length : Int) := by omega
  have q1 : (r1 == 0) = false := by simpa using e1
  clear e1
  have q3 : (r3 != 0) = true := by simpa using d1
  clear d1
  clear hm hp hl t1 t2 v1 v2 h100
  go_enter Try.func8, Try.ntmps8
  go_wp2_with (fail)
  refine (hLg _).mono ?_
  rintro e w1 ⟨rfl, hw1⟩
  have bw1 : Below w.heap.size w w1 := bel2 hw1
  have TF1 := Lib.hid (FW.n2a.later hw1)
  have TP1 := Lib.hid (C2.n2b.later hw1)
  have H1 := Lib.hid (H0.out.later bw1)
  have HP1 := Lib.hid (HP0.out.later bw1)
  have HL1 := Lib.hid (HL0.out.later bw1)
  have HB1 := Lib.hid bw1
  clear hw1 bw1 H0 HP0 HL0
  obtain ⟨tf1_0, tf1_1, tf1_2, tf1_3, tf1_4, tf1_5⟩ := TF1.out
  obtain ⟨tp1_0, tp1_1, tp1_2, tp1_3⟩ := TP1.out
  go_wp2_with (fail)
  refine (hM _ (HL1.out)).mono ?_
  rintro e w2 ⟨rfl, hw2⟩
  clear tf1_0 tf1_1 tf1_2 tf1_3 tf1_4 tf1_5 tp1_0 tp1_1 tp1_2 tp1_3
  have bw2 : Below w1.heap.size w1 w2 := hw2
  have H2 := Lib.hid (H1.out.later bw2)
  have HP2 := Lib.hid (HP1.out.later bw2)
  have HL2 := Lib.hid (HL1.out.later bw2)
  have TF2 := Lib.hid (TF1.out.later bw2)
  have TP2 := Lib.hid (TP1.out.later bw2)
  have HB2 := Lib.hid (HB1.out.trans (bw2.mono HB1.out.size))
  clear hw2 bw2 H1 HP1 HL1 TF1 TP1 HB1
  obtain ⟨tf2_0, tf2_1, tf2_2, tf2_3, tf2_4, tf2_5⟩ := TF2.out
  obtain ⟨tp2_0, tp2_1, tp2_2, tp2_3⟩ := TP2.out
  go_wp2_with (fail)
  refine (k1 _ _ _ (H2.out) (HP2.out)).mono ?_
  rintro e w3 ⟨rfl, hw3⟩
  clear tf2_0 tf2_1 tf2_2 tf2_3 tf2_4 tf2_5 tp2_0 tp2_1 tp2_2 tp2_3
  have bw3 : Below w2.heap.size w2 w3 := hw3
  have H3 := Lib.hid (H2.out.later bw3)
  have HP3 := Lib.hid (HP2.out.later bw3)
  have HL3 := Lib.hid (HL2.out.later bw3)
  have TF3 := Lib.hid (TF2.out.later bw3)
  have TP3 := Lib.hid (TP2.out.later bw3)
  have HB3 := Lib.hid (HB2.out.trans (bw3.mono HB2.out.size))
  clear hw3 bw3 H2 HP2 HL2 TF2 TP2 HB2
  obtain ⟨tf3_0, tf3_1, tf3_2, tf3_3, tf3_4, tf3_5⟩ := TF3.out
  obtain ⟨tp3_0, tp3_1, tp3_2, tp3_3⟩ := TP3.out
  go_wp2_with (fail)
  refine (hP _ (HP3.out.later ba1)).mono ?_
  rintro e w4 ⟨⟨a1, c1, rfl, hq⟩, hw4⟩
  clear tf3_0 tf3_1 tf3_2 tf3_3 tf3_4 tf3_5 tp3_0 tp3_1 tp3_2 tp3_3
  have bw4 : Below w3.heap.size w3 w4 := bel1 hw4
  have TA4 := Lib.hid (C2.n1.later hw4)
  have H4 := Lib.hid (H3.out.later bw4)
  have HP4 := Lib.hid (HP3.out.later bw4)
  have HL4 := Lib.hid (HL3.out.later bw4)
  have TF4 := Lib.hid (TF3.out.later bw4)
  have TP4 := Lib.hid (TP3.out.later bw4)
  have HB4 := Lib.hid (HB3.out.trans (bw4.mono HB3.out.size))
  have HQ4 := Lib.hid hq
  clear hq
  clear hw4 bw4 H3 HP3 HL3 TF3 TP3 HB3
  obtain ⟨tf4_0, tf4_1, tf4_2, tf4_3, tf4_4, tf4_5⟩ := TF4.out
  obtain ⟨tp4_0, tp4_1, tp4_2, tp4_3⟩ := TP4.out
  go_wp2_with (fail)
  refine (k2 _ _ _ (H4.out) (HQ4.out)).mono ?_
  rintro e w5 ⟨rfl, hw5⟩
  clear tf4_0 tf4_1 tf4_2 tf4_3 tf4_4 tf4_5 tp4_0 tp4_1 tp4_2 tp4_3
  have bw5 : Below w4.heap.size w4 w5 := hw5
  have H5 := Lib.hid (H4.out.later bw5)
  have HP5 := Lib.hid (HP4.out.later bw5)
  have HL5 := Lib.hid (HL4.out.later bw5)
  have TF5 := Lib.hid (TF4.out.later bw5)
  have TP5 := Lib.hid (TP4.out.later bw5)
  have TA5 := Lib.hid (TA4.out.later bw5)
  have HQ5 := Lib.hid (HQ4.out.later bw5)
  have HB5 := Lib.hid (HB4.out.trans (bw5.mono HB4.out.size))
  clear hw5 bw5 H4 HP4 HL4 TF4 TP4 TA4 HQ4 HB4
  obtain ⟨tf5_0, tf5_1, tf5_2, tf5_3, tf5_4, tf5_5⟩ := TF5.out
  obtain ⟨tp5_0, tp5_1, tp5_2, tp5_3⟩ := TP5.out
  obtain ⟨ta5_0, ta5_1, ta5_2, ta5_3⟩ := TA5.out
  go_wp2_with (fail)
  refine (k3 _ _ _ _ rfl (H5.out.later ba1) (HL5.out.later ba1)).mono ?_
  rintro e w6 ⟨rfl, hw6⟩
  clear tf5_0 tf5_1 tf5_2 tf5_3 tf5_4 tf5_5 tp5_0 tp5_1 tp5_2 tp5_3 ta5_0 ta5_1 ta5_2 ta5_3
  have bw6 : Below w5.heap.size w5 w6 := bel1 hw6
  have TB6 := Lib.hid (C2.n1.later hw6)
  have H6 := Lib.hid (H5.out.later bw6)
  have HP6 := Lib.hid (HP5.out.later bw6)
  have HL6 := Lib.hid (HL5.out.later bw6)
  have TF6 := Lib.hid (TF5.out.later bw6)
  have TP6 := Lib.hid (TP5.out.later bw6)
  have TA6 := Lib.hid (TA5.out.later bw6)
  have HQ6 := Lib.hid (HQ5.out.later bw6)
  have HB6 := Lib.hid (HB5.out.trans (bw6.mono HB5.out.size))
  clear hw6 bw6 H5 HP5 HL5 TF5 TP5 TA5 HQ5 HB5
  obtain ⟨tf6_0, tf6_1, tf6_2, tf6_3, tf6_4, tf6_5⟩ := TF6.out
  obtain ⟨tp6_0, tp6_1, tp6_2, tp6_3⟩ := TP6.out
  go_wp2_with (fail)
  refine (hPl _ (HL6.out.later ba1)).mono ?_
  rintro e w7 ⟨⟨a3, c3, es, rfl, hT, hes, -, -⟩, hw7⟩
  clear tf6_0 tf6_1 tf6_2 tf6_3 tf6_4 tf6_5 tp6_0 tp6_1 tp6_2 tp6_3
  have bw7 : Below w6.heap.size w6 w7 := bel1 hw7
  have TV7 := Lib.hid (C2.n1.later hw7)
  have H7 := Lib.hid (H6.out.later bw7)
  have HP7 := Lib.hid (HP6.out.later bw7)
  have HL7 := Lib.hid (HL6.out.later bw7)
  have TF7 := Lib.hid (TF6.out.later bw7)
  have TP7 := Lib.hid (TP6.out.later bw7)
  have TA7 := Lib.hid (TA6.out.later bw7)
  have HQ7 := Lib.hid (HQ6.out.later bw7)
  have TB7 := Lib.hid (TB6.out.later bw7)
  have HB7 := Lib.hid (HB6.out.trans (bw7.mono HB6.out.size))
  have HT7 := Lib.hid hT
  clear hT
  clear hw7 bw7 H6 HP6 HL6 TF6 TP6 TA6 HQ6 TB6 HB6
  obtain ⟨tf7_0, tf7_1, tf7_2, tf7_3, tf7_4, tf7_5⟩ := TF7.out
  obtain ⟨tp7_0, tp7_1, tp7_2, tp7_3⟩ := TP7.out
  go_wp2_with (fail)
  refine (k4 _ _ _ _ hes (H7.out) (HT7.out)).mono ?_
  rintro e w8 ⟨rfl, hw8⟩
  clear tf7_0 tf7_1 tf7_2 tf7_3 tf7_4 tf7_5 tp7_0 tp7_1 tp7_2 tp7_3
  have bw8 : Below w7.heap.size w7 w8 := hw8
  have H8 := Lib.hid (H7.out.later bw8)
  have HP8 := Lib.hid (HP7.out.later bw8)
  have HL8 := Lib.hid (HL7.out.later bw8)
  have TF8 := Lib.hid (TF7.out.later bw8)
  have TP8 := Lib.hid (TP7.out.later bw8)
  have TA8 := Lib.hid (TA7.out.later bw8)
  have HQ8 := Lib.hid (HQ7.out.later bw8)
  have TB8 := Lib.hid (TB7.out.later bw8)
  have TV8 := Lib.hid (TV7.out.later bw8)
  have HT8 := Lib.hid (HT7.out.later bw8)
  have HB8 := Lib.hid (HB7.out.trans (bw8.mono HB7.out.size))
  clear hw8 bw8 H7 HP7 HL7 TF7 TP7 TA7 HQ7 TB7 TV7 HT7 HB7
  obtain ⟨tv8_0, tv8_1, tv8_2, tv8_3⟩ := TV8.out
  go_wp2_with (fail)
  refine (kn _).mono ?_
  rintro e wz ⟨rfl, hwz⟩
  go_wp2
  go_ret
  have hbz := HB8.out
  exact ⟨rfl, by repeat (first | (with_reducible exact Below.refl _ _) | (with_reducible refine Below.setCell ?_ ?_ _) | (with_reducible refine Below.drew ?_) | (with_reducible refine Below.alloc ?_ ?_ _) | (with_reducible refine Below.trans ?_ (Below.mono hwz ?_)) | (with_reducible refine Below.trans ?_ (Below.mono hbz ?_)) | (with_reducible exact hwz.size) | (with_reducible exact hbz.size) | omega | (simp <;> omega) | (simp <;> (have s := hwz.size; omega)) | (simp <;> (have s := hbz.size; omega)) | (have s0 := hwz.size; (try simp at s0); have s1 := hbz.size; (try simp at s1); (try simp); omega))⟩

set_option maxHeartbeats 6400000 in
theorem lpv_11 (a b c s x1 y1 r1 x2 y2 r2 x3 y3 r3 x4 y4 r4 rp rm : Int) (fo ao lo : Option Addr) (cap pc lc : Nat) (L : List Q) (p q : List Int) (l : List E) (M : List Trm) (w : World) (hm : LiesO w fo L) (hp : LiesOI w ao p) (hl : Trs w lo l) (h100 : p.length ≤ 100)
    (hLg : ∀ W : World, Calls Try.prog 30 #[.agg #[.int .i64 a, .int .i64 b, .int .i64 c, .slice fo L.length cap]] W fun e w' => e = .returned (.bool false) ∧ Below W.heap.size W w')
    (hM : ∀ W : World, Trs W lo l → Calls Try.prog 15 #[.slice lo l.length lc] W fun e w' => e = .returned (.bool false) ∧ Below W.heap.size W w')
    (t1 : TrN a b c s fo cap L p x1 y1 r1)
    (hP : ∀ W : World, LiesOI W ao p → Calls Try.prog 11 #[.slice ao p.length pc] W fun e w' => (∃ (a1 : Option Addr) (c1 : Nat), e = .returned (.tuple #[.slice a1 q.length c1, .int .i64 rp]) ∧ LiesOI w' a1 q) ∧ Below W.heap.size W w')
    (t2 : TrN a b c s fo cap L q x2 y2 r2)
    (v1 : VaN a b c s fo cap L (tm l) x3 y3 r3)
    (hPl : ∀ W : World, Trs W lo l → Calls Try.prog 17 #[.slice lo l.length lc] W fun e w' => Ans M rm e w' ∧ Below W.heap.size W w')
    (v2 : VaN a b c s fo cap L M x4 y4 r4)
    (e1 : r1 ≠ 0)
    (d1 : r3 = 0)
    (d2 : rm ≠ 0)
    : Calls Try.prog 8 #[.agg #[.int .i64 a, .int .i64 b, .int .i64 c, .slice fo L.length cap], .agg #[.int .i64 s, .slice ao p.length pc], .slice lo l.length lc] w fun e w' => e = .returned (.bool true) ∧ Below w.heap.size w w' := by
  have kn := known3_any
  have H0 := Lib.hid hm
  have HP0 := Lib.hid hp
  have HL0 := Lib.hid hl
  have k1 := t1.ex
  have k2 := t2.ex
  have k3 := v1.ex
  have k4 := v2.ex
  have i0 : ¬ (100 : Int) < (p.length : Int) := by omega
  have q1 : (r1 == 0) = false := by simpa using e1
  clear e1
  have q3 : (rm != 0) = true := by simpa using d2
  subst d1
  clear d2
  clear hm hp hl t1 t2 v1 v2 h100
  go_enter Try.func8, Try.ntmps8
  go_wp2_with (fail)
  refine (hLg _).mono ?_
  rintro e w1 ⟨rfl, hw1⟩
  have bw1 : Below w.heap.size w w1 := bel2 hw1
  have TF1 := Lib.hid (FW.n2a.later hw1)
  have TP1 := Lib.hid (C2.n2b.later hw1)
  have H1 := Lib.hid (H0.out.later bw1)
  have HP1 := Lib.hid (HP0.out.later bw1)
  have HL1 := Lib.hid (HL0.out.later bw1)
  have HB1 := Lib.hid bw1
  clear hw1 bw1 H0 HP0 HL0
  obtain ⟨tf1_0, tf1_1, tf1_2, tf1_3, tf1_4, tf1_5⟩ := TF1.out
  obtain ⟨tp1_0, tp1_1, tp1_2, tp1_3⟩ := TP1.out
  go_wp2_with (fail)
  refine (hM _ (HL1.out)).mono ?_
  rintro e w2 ⟨rfl, hw2⟩
  clear tf1_0 tf1_1 tf1_2 tf1_3 tf1_4 tf1_5 tp1_0 tp1_1 tp1_2 tp1_3
  have bw2 : Below w1.heap.size w1 w2 := hw2
  have H2 := Lib.hid (H1.out.later bw2)
  have HP2 := Lib.hid (HP1.out.later bw2)
  have HL2 := Lib.hid (HL1.out.later bw2)
  have TF2 := Lib.hid (TF1.out.later bw2)
  have TP2 := Lib.hid (TP1.out.later bw2)
  have HB2 := Lib.hid (HB1.out.trans (bw2.mono HB1.out.size))
  clear hw2 bw2 H1 HP1 HL1 TF1 TP1 HB1
  obtain ⟨tf2_0, tf2_1, tf2_2, tf2_3, tf2_4, tf2_5⟩ := TF2.out
  obtain ⟨tp2_0, tp2_1, tp2_2, tp2_3⟩ := TP2.out
  go_wp2_with (fail)
  refine (k1 _ _ _ (H2.out) (HP2.out)).mono ?_
  rintro e w3 ⟨rfl, hw3⟩
  clear tf2_0 tf2_1 tf2_2 tf2_3 tf2_4 tf2_5 tp2_0 tp2_1 tp2_2 tp2_3
  have bw3 : Below w2.heap.size w2 w3 := hw3
  have H3 := Lib.hid (H2.out.later bw3)
  have HP3 := Lib.hid (HP2.out.later bw3)
  have HL3 := Lib.hid (HL2.out.later bw3)
  have TF3 := Lib.hid (TF2.out.later bw3)
  have TP3 := Lib.hid (TP2.out.later bw3)
  have HB3 := Lib.hid (HB2.out.trans (bw3.mono HB2.out.size))
  clear hw3 bw3 H2 HP2 HL2 TF2 TP2 HB2
  obtain ⟨tf3_0, tf3_1, tf3_2, tf3_3, tf3_4, tf3_5⟩ := TF3.out
  obtain ⟨tp3_0, tp3_1, tp3_2, tp3_3⟩ := TP3.out
  go_wp2_with (fail)
  refine (hP _ (HP3.out.later ba1)).mono ?_
  rintro e w4 ⟨⟨a1, c1, rfl, hq⟩, hw4⟩
  clear tf3_0 tf3_1 tf3_2 tf3_3 tf3_4 tf3_5 tp3_0 tp3_1 tp3_2 tp3_3
  have bw4 : Below w3.heap.size w3 w4 := bel1 hw4
  have TA4 := Lib.hid (C2.n1.later hw4)
  have H4 := Lib.hid (H3.out.later bw4)
  have HP4 := Lib.hid (HP3.out.later bw4)
  have HL4 := Lib.hid (HL3.out.later bw4)
  have TF4 := Lib.hid (TF3.out.later bw4)
  have TP4 := Lib.hid (TP3.out.later bw4)
  have HB4 := Lib.hid (HB3.out.trans (bw4.mono HB3.out.size))
  have HQ4 := Lib.hid hq
  clear hq
  clear hw4 bw4 H3 HP3 HL3 TF3 TP3 HB3
  obtain ⟨tf4_0, tf4_1, tf4_2, tf4_3, tf4_4, tf4_5⟩ := TF4.out
  obtain ⟨tp4_0, tp4_1, tp4_2, tp4_3⟩ := TP4.out
  go_wp2_with (fail)
  refine (k2 _ _ _ (H4.out) (HQ4.out)).mono ?_
  rintro e w5 ⟨rfl, hw5⟩
  clear tf4_0 tf4_1 tf4_2 tf4_3 tf4_4 tf4_5 tp4_0 tp4_1 tp4_2 tp4_3
  have bw5 : Below w4.heap.size w4 w5 := hw5
  have H5 := Lib.hid (H4.out.later bw5)
  have HP5 := Lib.hid (HP4.out.later bw5)
  have HL5 := Lib.hid (HL4.out.later bw5)
  have TF5 := Lib.hid (TF4.out.later bw5)
  have TP5 := Lib.hid (TP4.out.later bw5)
  have TA5 := Lib.hid (TA4.out.later bw5)
  have HQ5 := Lib.hid (HQ4.out.later bw5)
  have HB5 := Lib.hid (HB4.out.trans (bw5.mono HB4.out.size))
  clear hw5 bw5 H4 HP4 HL4 TF4 TP4 TA4 HQ4 HB4
  obtain ⟨tf5_0, tf5_1, tf5_2, tf5_3, tf5_4, tf5_5⟩ := TF5.out
  obtain ⟨tp5_0, tp5_1, tp5_2, tp5_3⟩ := TP5.out
  obtain ⟨ta5_0, ta5_1, ta5_2, ta5_3⟩ := TA5.out
  go_wp2_with (fail)
  refine (k3 _ _ _ _ rfl (H5.out.later ba1) (HL5.out.later ba1)).mono ?_
  rintro e w6 ⟨rfl, hw6⟩
  clear tf5_0 tf5_1 tf5_2 tf5_3 tf5_4 tf5_5 tp5_0 tp5_1 tp5_2 tp5_3 ta5_0 ta5_1 ta5_2 ta5_3
  have bw6 : Below w5.heap.size w5 w6 := bel1 hw6
  have TB6 := Lib.hid (C2.n1.later hw6)
  have H6 := Lib.hid (H5.out.later bw6)
  have HP6 := Lib.hid (HP5.out.later bw6)
  have HL6 := Lib.hid (HL5.out.later bw6)
  have TF6 := Lib.hid (TF5.out.later bw6)
  have TP6 := Lib.hid (TP5.out.later bw6)
  have TA6 := Lib.hid (TA5.out.later bw6)
  have HQ6 := Lib.hid (HQ5.out.later bw6)
  have HB6 := Lib.hid (HB5.out.trans (bw6.mono HB5.out.size))
  clear hw6 bw6 H5 HP5 HL5 TF5 TP5 TA5 HQ5 HB5
  obtain ⟨tf6_0, tf6_1, tf6_2, tf6_3, tf6_4, tf6_5⟩ := TF6.out
  obtain ⟨tp6_0, tp6_1, tp6_2, tp6_3⟩ := TP6.out
  go_wp2_with (fail)
  refine (hPl _ (HL6.out.later ba1)).mono ?_
  rintro e w7 ⟨⟨a3, c3, es, rfl, hT, hes, -, -⟩, hw7⟩
  clear tf6_0 tf6_1 tf6_2 tf6_3 tf6_4 tf6_5 tp6_0 tp6_1 tp6_2 tp6_3
  have bw7 : Below w6.heap.size w6 w7 := bel1 hw7
  have TV7 := Lib.hid (C2.n1.later hw7)
  have H7 := Lib.hid (H6.out.later bw7)
  have HP7 := Lib.hid (HP6.out.later bw7)
  have HL7 := Lib.hid (HL6.out.later bw7)
  have TF7 := Lib.hid (TF6.out.later bw7)
  have TP7 := Lib.hid (TP6.out.later bw7)
  have TA7 := Lib.hid (TA6.out.later bw7)
  have HQ7 := Lib.hid (HQ6.out.later bw7)
  have TB7 := Lib.hid (TB6.out.later bw7)
  have HB7 := Lib.hid (HB6.out.trans (bw7.mono HB6.out.size))
  have HT7 := Lib.hid hT
  clear hT
  clear hw7 bw7 H6 HP6 HL6 TF6 TP6 TA6 HQ6 TB6 HB6
  obtain ⟨tf7_0, tf7_1, tf7_2, tf7_3, tf7_4, tf7_5⟩ := TF7.out
  obtain ⟨tp7_0, tp7_1, tp7_2, tp7_3⟩ := TP7.out
  go_wp2_with (fail)
  refine (k4 _ _ _ _ hes (H7.out) (HT7.out)).mono ?_
  rintro e w8 ⟨rfl, hw8⟩
  clear tf7_0 tf7_1 tf7_2 tf7_3 tf7_4 tf7_5 tp7_0 tp7_1 tp7_2 tp7_3
  have bw8 : Below w7.heap.size w7 w8 := hw8
  have H8 := Lib.hid (H7.out.later bw8)
  have HP8 := Lib.hid (HP7.out.later bw8)
  have HL8 := Lib.hid (HL7.out.later bw8)
  have TF8 := Lib.hid (TF7.out.later bw8)
  have TP8 := Lib.hid (TP7.out.later bw8)
  have TA8 := Lib.hid (TA7.out.later bw8)
  have HQ8 := Lib.hid (HQ7.out.later bw8)
  have TB8 := Lib.hid (TB7.out.later bw8)
  have TV8 := Lib.hid (TV7.out.later bw8)
  have HT8 := Lib.hid (HT7.out.later bw8)
  have HB8 := Lib.hid (HB7.out.trans (bw8.mono HB7.out.size))
  clear hw8 bw8 H7 HP7 HL7 TF7 TP7 TA7 HQ7 TB7 TV7 HT7 HB7
  obtain ⟨tv8_0, tv8_1, tv8_2, tv8_3⟩ := TV8.out
  go_wp2_with (fail)
  refine (kn _).mono ?_
  rintro e wz ⟨rfl, hwz⟩
  go_wp2
  go_ret
  have hbz := HB8.out
  exact ⟨rfl, by repeat (first | (with_reducible exact Below.refl _ _) | (with_reducible refine Below.setCell ?_ ?_ _) | (with_reducible refine Below.drew ?_) | (with_reducible refine Below.alloc ?_ ?_ _) | (with_reducible refine Below.trans ?_ (Below.mono hwz ?_)) | (with_reducible refine Below.trans ?_ (Below.mono hbz ?_)) | (with_reducible exact hwz.size) | (with_reducible exact hbz.size) | omega | (simp <;> omega) | (simp <;> (have s := hwz.size; omega)) | (simp <;> (have s := hbz.size; omega)) | (have s0 := hwz.size; (try simp at s0); have s1 := hbz.size; (try simp at s1); (try simp); omega))⟩

set_option maxHeartbeats 6400000 in
theorem lpv_12 (a b c s x1 y1 r1 x2 y2 r2 x3 y3 r3 x4 y4 r4 rp rm : Int) (fo ao lo : Option Addr) (cap pc lc : Nat) (L : List Q) (p q : List Int) (l : List E) (M : List Trm) (w : World) (hm : LiesO w fo L) (hp : LiesOI w ao p) (hl : Trs w lo l) (h100 : p.length ≤ 100)
    (hLg : ∀ W : World, Calls Try.prog 30 #[.agg #[.int .i64 a, .int .i64 b, .int .i64 c, .slice fo L.length cap]] W fun e w' => e = .returned (.bool false) ∧ Below W.heap.size W w')
    (hM : ∀ W : World, Trs W lo l → Calls Try.prog 15 #[.slice lo l.length lc] W fun e w' => e = .returned (.bool false) ∧ Below W.heap.size W w')
    (t1 : TrN a b c s fo cap L p x1 y1 r1)
    (hP : ∀ W : World, LiesOI W ao p → Calls Try.prog 11 #[.slice ao p.length pc] W fun e w' => (∃ (a1 : Option Addr) (c1 : Nat), e = .returned (.tuple #[.slice a1 q.length c1, .int .i64 rp]) ∧ LiesOI w' a1 q) ∧ Below W.heap.size W w')
    (t2 : TrN a b c s fo cap L q x2 y2 r2)
    (v1 : VaN a b c s fo cap L (tm l) x3 y3 r3)
    (hPl : ∀ W : World, Trs W lo l → Calls Try.prog 17 #[.slice lo l.length lc] W fun e w' => Ans M rm e w' ∧ Below W.heap.size W w')
    (v2 : VaN a b c s fo cap L M x4 y4 r4)
    (e1 : r1 ≠ 0)
    (d1 : r3 = 0)
    (d2 : rm = 0)
    (d3 : r4 = 0)
    (d4 : x4 = x3)
    (d5 : y4 = y3)
    : Calls Try.prog 8 #[.agg #[.int .i64 a, .int .i64 b, .int .i64 c, .slice fo L.length cap], .agg #[.int .i64 s, .slice ao p.length pc], .slice lo l.length lc] w fun e w' => e = .returned (.bool true) ∧ Below w.heap.size w w' := by
  have kn := known3_any
  have H0 := Lib.hid hm
  have HP0 := Lib.hid hp
  have HL0 := Lib.hid hl
  have k1 := t1.ex
  have k2 := t2.ex
  have k3 := v1.ex
  have k4 := v2.ex
  have i0 : ¬ (100 : Int) < (p.length : Int) := by omega
  have q1 : (r1 == 0) = false := by simpa using e1
  clear e1
  subst d1 d2 d3 d4 d5
  clear hm hp hl t1 t2 v1 v2 h100
  go_enter Try.func8, Try.ntmps8
  go_wp2_with (fail)
  refine (hLg _).mono ?_
  rintro e w1 ⟨rfl, hw1⟩
  have bw1 : Below w.heap.size w w1 := bel2 hw1
  have TF1 := Lib.hid (FW.n2a.later hw1)
  have TP1 := Lib.hid (C2.n2b.later hw1)
  have H1 := Lib.hid (H0.out.later bw1)
  have HP1 := Lib.hid (HP0.out.later bw1)
  have HL1 := Lib.hid (HL0.out.later bw1)
  have HB1 := Lib.hid bw1
  clear hw1 bw1 H0 HP0 HL0
  obtain ⟨tf1_0, tf1_1, tf1_2, tf1_3, tf1_4, tf1_5⟩ := TF1.out
  obtain ⟨tp1_0, tp1_1, tp1_2, tp1_3⟩ := TP1.out
  go_wp2_with (fail)
  refine (hM _ (HL1.out)).mono ?_
  rintro e w2 ⟨rfl, hw2⟩
  clear tf1_0 tf1_1 tf1_2 tf1_3 tf1_4 tf1_5 tp1_0 tp1_1 tp1_2 tp1_3
  have bw2 : Below w1.heap.size w1 w2 := hw2
  have H2 := Lib.hid (H1.out.later bw2)
  have HP2 := Lib.hid (HP1.out.later bw2)
  have HL2 := Lib.hid (HL1.out.later bw2)
  have TF2 := Lib.hid (TF1.out.later bw2)
  have TP2 := Lib.hid (TP1.out.later bw2)
  have HB2 := Lib.hid (HB1.out.trans (bw2.mono HB1.out.size))
  clear hw2 bw2 H1 HP1 HL1 TF1 TP1 HB1
  obtain ⟨tf2_0, tf2_1, tf2_2, tf2_3, tf2_4, tf2_5⟩ := TF2.out
  obtain ⟨tp2_0, tp2_1, tp2_2, tp2_3⟩ := TP2.out
  go_wp2_with (fail)
  refine (k1 _ _ _ (H2.out) (HP2.out)).mono ?_
  rintro e w3 ⟨rfl, hw3⟩
  clear tf2_0 tf2_1 tf2_2 tf2_3 tf2_4 tf2_5 tp2_0 tp2_1 tp2_2 tp2_3
  have bw3 : Below w2.heap.size w2 w3 := hw3
  have H3 := Lib.hid (H2.out.later bw3)
  have HP3 := Lib.hid (HP2.out.later bw3)
  have HL3 := Lib.hid (HL2.out.later bw3)
  have TF3 := Lib.hid (TF2.out.later bw3)
  have TP3 := Lib.hid (TP2.out.later bw3)
  have HB3 := Lib.hid (HB2.out.trans (bw3.mono HB2.out.size))
  clear hw3 bw3 H2 HP2 HL2 TF2 TP2 HB2
  obtain ⟨tf3_0, tf3_1, tf3_2, tf3_3, tf3_4, tf3_5⟩ := TF3.out
  obtain ⟨tp3_0, tp3_1, tp3_2, tp3_3⟩ := TP3.out
  go_wp2_with (fail)
  refine (hP _ (HP3.out.later ba1)).mono ?_
  rintro e w4 ⟨⟨a1, c1, rfl, hq⟩, hw4⟩
  clear tf3_0 tf3_1 tf3_2 tf3_3 tf3_4 tf3_5 tp3_0 tp3_1 tp3_2 tp3_3
  have bw4 : Below w3.heap.size w3 w4 := bel1 hw4
  have TA4 := Lib.hid (C2.n1.later hw4)
  have H4 := Lib.hid (H3.out.later bw4)
  have HP4 := Lib.hid (HP3.out.later bw4)
  have HL4 := Lib.hid (HL3.out.later bw4)
  have TF4 := Lib.hid (TF3.out.later bw4)
  have TP4 := Lib.hid (TP3.out.later bw4)
  have HB4 := Lib.hid (HB3.out.trans (bw4.mono HB3.out.size))
  have HQ4 := Lib.hid hq
  clear hq
  clear hw4 bw4 H3 HP3 HL3 TF3 TP3 HB3
  obtain ⟨tf4_0, tf4_1, tf4_2, tf4_3, tf4_4, tf4_5⟩ := TF4.out
  obtain ⟨tp4_0, tp4_1, tp4_2, tp4_3⟩ := TP4.out
  go_wp2_with (fail)
  refine (k2 _ _ _ (H4.out) (HQ4.out)).mono ?_
  rintro e w5 ⟨rfl, hw5⟩
  clear tf4_0 tf4_1 tf4_2 tf4_3 tf4_4 tf4_5 tp4_0 tp4_1 tp4_2 tp4_3
  have bw5 : Below w4.heap.size w4 w5 := hw5
  have H5 := Lib.hid (H4.out.later bw5)
  have HP5 := Lib.hid (HP4.out.later bw5)
  have HL5 := Lib.hid (HL4.out.later bw5)
  have TF5 := Lib.hid (TF4.out.later bw5)
  have TP5 := Lib.hid (TP4.out.later bw5)
  have TA5 := Lib.hid (TA4.out.later bw5)
  have HQ5 := Lib.hid (HQ4.out.later bw5)
  have HB5 := Lib.hid (HB4.out.trans (bw5.mono HB4.out.size))
  clear hw5 bw5 H4 HP4 HL4 TF4 TP4 TA4 HQ4 HB4
  obtain ⟨tf5_0, tf5_1, tf5_2, tf5_3, tf5_4, tf5_5⟩ := TF5.out
  obtain ⟨tp5_0, tp5_1, tp5_2, tp5_3⟩ := TP5.out
  obtain ⟨ta5_0, ta5_1, ta5_2, ta5_3⟩ := TA5.out
  go_wp2_with (fail)
  refine (k3 _ _ _ _ rfl (H5.out.later ba1) (HL5.out.later ba1)).mono ?_
  rintro e w6 ⟨rfl, hw6⟩
  clear tf5_0 tf5_1 tf5_2 tf5_3 tf5_4 tf5_5 tp5_0 tp5_1 tp5_2 tp5_3 ta5_0 ta5_1 ta5_2 ta5_3
  have bw6 : Below w5.heap.size w5 w6 := bel1 hw6
  have TB6 := Lib.hid (C2.n1.later hw6)
  have H6 := Lib.hid (H5.out.later bw6)
  have HP6 := Lib.hid (HP5.out.later bw6)
  have HL6 := Lib.hid (HL5.out.later bw6)
  have TF6 := Lib.hid (TF5.out.later bw6)
  have TP6 := Lib.hid (TP5.out.later bw6)
  have TA6 := Lib.hid (TA5.out.later bw6)
  have HQ6 := Lib.hid (HQ5.out.later bw6)
  have HB6 := Lib.hid (HB5.out.trans (bw6.mono HB5.out.size))
  clear hw6 bw6 H5 HP5 HL5 TF5 TP5 TA5 HQ5 HB5
  obtain ⟨tf6_0, tf6_1, tf6_2, tf6_3, tf6_4, tf6_5⟩ := TF6.out
  obtain ⟨tp6_0, tp6_1, tp6_2, tp6_3⟩ := TP6.out
  go_wp2_with (fail)
  refine (hPl _ (HL6.out.later ba1)).mono ?_
  rintro e w7 ⟨⟨a3, c3, es, rfl, hT, hes, -, -⟩, hw7⟩
  clear tf6_0 tf6_1 tf6_2 tf6_3 tf6_4 tf6_5 tp6_0 tp6_1 tp6_2 tp6_3
  have bw7 : Below w6.heap.size w6 w7 := bel1 hw7
  have TV7 := Lib.hid (C2.n1.later hw7)
  have H7 := Lib.hid (H6.out.later bw7)
  have HP7 := Lib.hid (HP6.out.later bw7)
  have HL7 := Lib.hid (HL6.out.later bw7)
  have TF7 := Lib.hid (TF6.out.later bw7)
  have TP7 := Lib.hid (TP6.out.later bw7)
  have TA7 := Lib.hid (TA6.out.later bw7)
  have HQ7 := Lib.hid (HQ6.out.later bw7)
  have TB7 := Lib.hid (TB6.out.later bw7)
  have HB7 := Lib.hid (HB6.out.trans (bw7.mono HB6.out.size))
  have HT7 := Lib.hid hT
  clear hT
  clear hw7 bw7 H6 HP6 HL6 TF6 TP6 TA6 HQ6 TB6 HB6
  obtain ⟨tf7_0, tf7_1, tf7_2, tf7_3, tf7_4, tf7_5⟩ := TF7.out
  obtain ⟨tp7_0, tp7_1, tp7_2, tp7_3⟩ := TP7.out
  go_wp2_with (fail)
  refine (k4 _ _ _ _ hes (H7.out) (HT7.out)).mono ?_
  rintro e w8 ⟨rfl, hw8⟩
  clear tf7_0 tf7_1 tf7_2 tf7_3 tf7_4 tf7_5 tp7_0 tp7_1 tp7_2 tp7_3
  have bw8 : Below w7.heap.size w7 w8 := hw8
  have H8 := Lib.hid (H7.out.later bw8)
  have HP8 := Lib.hid (HP7.out.later bw8)
  have HL8 := Lib.hid (HL7.out.later bw8)
  have TF8 := Lib.hid (TF7.out.later bw8)
  have TP8 := Lib.hid (TP7.out.later bw8)
  have TA8 := Lib.hid (TA7.out.later bw8)
  have HQ8 := Lib.hid (HQ7.out.later bw8)
  have TB8 := Lib.hid (TB7.out.later bw8)
  have TV8 := Lib.hid (TV7.out.later bw8)
  have HT8 := Lib.hid (HT7.out.later bw8)
  have HB8 := Lib.hid (HB7.out.trans (bw8.mono HB7.out.size))
  clear hw8 bw8 H7 HP7 HL7 TF7 TP7 TA7 HQ7 TB7 TV7 HT7 HB7
  obtain ⟨tv8_0, tv8_1, tv8_2, tv8_3⟩ := TV8.out
  go_wp2_with (fail)
  refine (kn _).mono ?_
  rintro e wz ⟨rfl, hwz⟩
  go_wp2
  go_ret
  have hbz := HB8.out
  exact ⟨rfl, by repeat (first | (with_reducible exact Below.refl _ _) | (with_reducible refine Below.setCell ?_ ?_ _) | (with_reducible refine Below.drew ?_) | (with_reducible refine Below.alloc ?_ ?_ _) | (with_reducible refine Below.trans ?_ (Below.mono hwz ?_)) | (with_reducible refine Below.trans ?_ (Below.mono hbz ?_)) | (with_reducible exact hwz.size) | (with_reducible exact hbz.size) | omega | (simp <;> omega) | (simp <;> (have s := hwz.size; omega)) | (simp <;> (have s := hbz.size; omega)) | (have s0 := hwz.size; (try simp at s0); have s1 := hbz.size; (try simp at s1); (try simp); omega))⟩
set_option maxHeartbeats 800000 in
theorem lpv_longF (a b c s : Int) (fo ao lo : Option Addr) (n cap m pc k lc : Nat) (w : World) (hn : 100 < n) : Calls Try.prog 8 #[.agg #[.int .i64 a, .int .i64 b, .int .i64 c, .slice fo n cap], .agg #[.int .i64 s, .slice ao m pc], .slice lo k lc] w fun e w' => e = .returned (.bool true) ∧ Below w.heap.size w w' := by
  have kn := known3_any
  have lg := fun W : World => long_any a b c fo cap n true W (.inr ⟨hn, rfl⟩)
  go_enter Try.func8, Try.ntmps8
  go_wp2_with (fail)
  refine (lg _).mono ?_
  rintro e w1 ⟨rfl, hw1⟩
  go_wp2_with (fail)
  refine (kn _).mono ?_
  rintro e w2 ⟨rfl, hw2⟩
  go_wp2
  go_ret
  exact ⟨rfl, by repeat (first | (with_reducible exact Below.refl _ _) | (with_reducible refine Below.setCell ?_ ?_ _) | (with_reducible refine Below.drew ?_) | (with_reducible refine Below.alloc ?_ ?_ _) | (with_reducible refine Below.trans ?_ (Below.mono hw2 ?_)) | (with_reducible refine Below.trans ?_ (Below.mono hw1 ?_)) | (with_reducible exact hw2.size) | (with_reducible exact hw1.size) | omega | (simp <;> omega) | (simp <;> (have s := hw2.size; omega)) | (simp <;> (have s := hw1.size; omega)) | (have s0 := hw2.size; (try simp at s0); have s1 := hw1.size; (try simp at s1); (try simp); omega))⟩
set_option maxHeartbeats 800000 in
theorem lpv_longP (a b c s : Int) (fo ao lo : Option Addr) (n cap m pc k lc : Nat) (w : World) (hn : n ≤ 100) (hm : 100 < m) : Calls Try.prog 8 #[.agg #[.int .i64 a, .int .i64 b, .int .i64 c, .slice fo n cap], .agg #[.int .i64 s, .slice ao m pc], .slice lo k lc] w fun e w' => e = .returned (.bool true) ∧ Below w.heap.size w w' := by
  have kn := known3_any
  have lg := fun W : World => long_any a b c fo cap n false W (.inl ⟨hn, rfl⟩)
  have hm' : (100 : Int) < (m : Int) := by omega
  go_enter Try.func8, Try.ntmps8
  go_wp2_with (fail)
  refine (lg _).mono ?_
  rintro e w1 ⟨rfl, hw1⟩
  have hc := Tail.cells hw1
  have zw10 := Nat.lt_of_lt_of_le (n := w.heap.size) (by simp <;> omega) hw1.size; have zw11 := Nat.lt_of_lt_of_le (n := w.heap.size + 1) (by simp <;> omega) hw1.size
  go_wp2_with (fail)
  refine (kn _).mono ?_
  rintro e w2 ⟨rfl, hw2⟩
  go_wp2
  go_ret
  exact ⟨rfl, by repeat (first | (with_reducible exact Below.refl _ _) | (with_reducible refine Below.setCell ?_ ?_ _) | (with_reducible refine Below.drew ?_) | (with_reducible refine Below.alloc ?_ ?_ _) | (with_reducible refine Below.trans ?_ (Below.mono hw2 ?_)) | (with_reducible refine Below.trans ?_ (Below.mono hw1 ?_)) | (with_reducible exact hw2.size) | (with_reducible exact hw1.size) | omega | (simp <;> omega) | (simp <;> (have s := hw2.size; omega)) | (simp <;> (have s := hw1.size; omega)) | (have s0 := hw2.size; (try simp at s0); have s1 := hw1.size; (try simp at s1); (try simp); omega))⟩
set_option maxHeartbeats 800000 in
theorem lpv_many (a b c s : Int) (fo ao lo : Option Addr) (n cap m pc lc : Nat) (l : List E) (w : World) (hn : n ≤ 100) (hm : m ≤ 100) (h : Trs w lo l) (hf : ¬ few l) (hl : l.length ≤ maxLen) (hp : ∀ e ∈ l, e.p.length ≤ maxLen) : Calls Try.prog 8 #[.agg #[.int .i64 a, .int .i64 b, .int .i64 c, .slice fo n cap], .agg #[.int .i64 s, .slice ao m pc], .slice lo l.length lc] w fun e w' => e = .returned (.bool true) ∧ Below w.heap.size w w' := by
  have kn := known3_any
  have lg := fun W : World => long_any a b c fo cap n false W (.inl ⟨hn, rfl⟩)
  have cM := fun W h => many_yes lo lc l W h hf hl hp
  have H := Lib.hid h
  have hm' : ¬ (100 : Int) < (m : Int) := by omega
  clear h hf hp
  go_enter Try.func8, Try.ntmps8
  go_wp2_with (fail)
  refine (lg _).mono ?_
  rintro e w1 ⟨rfl, hw1⟩
  have hc := Tail.cells hw1
  have zw10 := Nat.lt_of_lt_of_le (n := w.heap.size) (by simp <;> omega) hw1.size; have zw11 := Nat.lt_of_lt_of_le (n := w.heap.size + 1) (by simp <;> omega) hw1.size
  go_wp2_with (fail)
  refine (cM _ (H.out.later (by repeat (first | (with_reducible exact Below.refl _ _) | (with_reducible refine Below.setCell ?_ ?_ _) | (with_reducible refine Below.drew ?_) | (with_reducible refine Below.alloc ?_ ?_ _) | (with_reducible refine Below.trans ?_ (Below.mono hw1 ?_)) | (with_reducible exact hw1.size) | omega | (simp <;> omega) | (simp <;> (have s := hw1.size; omega)) | (have s0 := hw1.size; (try simp at s0); (try simp); omega))))).mono ?_
  rintro e w2 ⟨rfl, hw2⟩
  go_wp2_with (fail)
  refine (kn _).mono ?_
  rintro e w3 ⟨rfl, hw3⟩
  go_wp2
  go_ret
  exact ⟨rfl, by repeat (first | (with_reducible exact Below.refl _ _) | (with_reducible refine Below.setCell ?_ ?_ _) | (with_reducible refine Below.drew ?_) | (with_reducible refine Below.alloc ?_ ?_ _) | (with_reducible refine Below.trans ?_ (Below.mono hw3 ?_)) | (with_reducible refine Below.trans ?_ (Below.mono hw2 ?_)) | (with_reducible refine Below.trans ?_ (Below.mono hw1 ?_)) | (with_reducible exact hw3.size) | (with_reducible exact hw2.size) | (with_reducible exact hw1.size) | omega | (simp <;> omega) | (simp <;> (have s := hw3.size; omega)) | (simp <;> (have s := hw2.size; omega)) | (simp <;> (have s := hw1.size; omega)) | (have s0 := hw3.size; (try simp at s0); have s1 := hw2.size; (try simp at s1); have s2 := hw1.size; (try simp at s2); (try simp); omega))⟩
theorem loopPlainValues_walk (a b c : Int) (fo : Option Addr) (L : List Q) (cap : Nat) (s : Int) (ao : Option Addr) (p : List Int) (pc : Nat) (lo : Option Addr) (l : List E) (lc : Nat) (w : World) (hc : L.length ≤ maxLen) (hL : LiesO w fo L) (hlc : p.length ≤ pc) (hpc : pc ≤ maxLen) (hp : LiesOI w ao p) (hl : l.length ≤ maxLen) (hpl : ∀ e ∈ l, e.p.length ≤ maxLen) (h : Trs w lo l) : Calls Try.prog 8 #[.agg #[.int .i64 a, .int .i64 b, .int .i64 c, .slice fo L.length cap], .agg #[.int .i64 s, .slice ao p.length pc], .slice lo l.length lc] w fun e w' => e = .returned (.bool true) ∧ Below w.heap.size w w' := by
  by_cases hn : 100 < L.length
  · exact lpv_longF a b c s fo ao lo _ cap _ pc _ lc w hn
  by_cases hm : 100 < p.length
  · exact lpv_longP a b c s fo ao lo _ cap _ pc _ lc w (by omega) hm
  by_cases hf : ¬ few l
  · exact lpv_many a b c s fo ao lo _ cap _ pc lc l w (by omega) (by omega) h hf hl hpl
  have hf := Classical.not_not.1 hf
  have hLg := fun W : World => long_any a b c fo cap L.length false W (.inl ⟨by omega, rfl⟩)
  have hMa := fun W h => many_no lo lc l W h hf
  obtain ⟨x1, y1, r1, t1⟩ := trace_N a b c s fo cap L p w hL (by omega) (by omega)
  obtain ⟨q, rp, hq, hqr, hqlen⟩ : ∃ (q : List Int) (rp : Int), (∀ W : World, LiesOI W ao p → Calls Try.prog 11 #[.slice ao p.length pc] W fun e w' => (∃ (a1 : Option Addr) (c1 : Nat), e = .returned (.tuple #[.slice a1 q.length c1, .int .i64 rp]) ∧ LiesOI w' a1 q) ∧ Below W.heap.size W w') ∧ ((p.length ≤ 8 ∧ ∀ t ∈ p, IsStep t) → rp = 0 ∧ q = plL p) ∧ q.length ≤ 1000000 := by
    by_cases h0 : pe p = 0
    · obtain ⟨h8, hs⟩ := pe_ok h0
      exact ⟨plL p, 0, fun W h => (plainPath_ok ao pc p W h hs h8).mono fun e w' ⟨a1, c1, he, hl, _, hb⟩ => ⟨⟨a1, c1, he, hl.o⟩, hb⟩, fun _ => ⟨rfl, rfl⟩, by rw [plL_len]; have := red_len p; omega⟩
    · exact ⟨[], pe p, fun W h => (plainPath_bad ao pc p (pe p) W h (pe_R p) h0 (by omega)).mono fun e w' ⟨he, hb⟩ => ⟨⟨none, 0, he, .inl rfl⟩, hb⟩, fun ⟨h8, hs⟩ => absurd (pe_zero h8 hs) h0, by simp⟩
  obtain ⟨x2, y2, r2, t2⟩ := trace_N a b c s fo cap L q w hL (by omega) hqlen
  obtain ⟨f1, f2⟩ := few_big hf
  obtain ⟨x3, y3, r3, v1⟩ := value_N a b c s fo cap L (tm l) w hL (by omega) (by rw [tm_len]; omega) (fun t ht => by
    obtain ⟨e, he, rfl⟩ := List.mem_map.1 ht
    exact f2 e he)
  obtain ⟨M, rm, hPl, hM0, hMl, hMp⟩ : ∃ (M : List Trm) (rm : Int), (∀ W : World, Trs W lo l → Calls Try.prog 17 #[.slice lo l.length lc] W fun e w' => Ans M rm e w' ∧ Below W.heap.size W w') ∧ (rm = 0 → M = plT (plo (tm l)) ∧ vT M = 0) ∧ M.length ≤ 1000000 ∧ ∀ t ∈ M, t.2.length ≤ 1000000 := by
    by_cases hv : vT (tm l) = 0
    · refine ⟨_, _, fun W h => (Plain_ok lo lc l W h hv).mono fun e w' ⟨h1, hb⟩ => ⟨h1.ans, hb⟩, ?_, ?_, ?_⟩
      · unfold ansR ansN
        intro h
        by_cases h2 : vT (plT (plo (tm l))) = 0
        · rw [if_pos h2]; exact ⟨rfl, h2⟩
        · rw [if_neg h2] at h; omega
      · unfold ansN
        by_cases h2 : vT (plT (plo (tm l))) = 0
        · rw [if_pos h2]; have := (vT_ok h2).1; omega
        · rw [if_neg h2]; simp
      · unfold ansN
        by_cases h2 : vT (plT (plo (tm l))) = 0
        · rw [if_pos h2]; intro t ht; have := ((vT_ok h2).2 t ht).2.1; omega
        · rw [if_neg h2]; intro t ht; simp at ht
    · exact ⟨[], vT (tm l), fun W h => (Plain_bad lo lc l _ W h rfl hv f1 f2).mono fun e w' ⟨h1, hb⟩ => ⟨by rw [h1]; exact ans_err _ _, hb⟩, fun h => absurd h hv, by simp, fun t ht => by simp at ht⟩
  obtain ⟨x4, y4, r4, v2⟩ := value_N a b c s fo cap L M w hL (by omega) hMl hMp
  have first : r1 ≠ 0 ∨ (r1 = 0 ∧ rp = 0 ∧ r2 = 0 ∧ x2 = x1 ∧ y2 = y1) := by
    by_cases e1 : r1 = 0
    · right
      obtain ⟨hF, s0, s1, hs, h8, hcl, htr⟩ := t1.ok e1
      obtain ⟨e2, eq⟩ := hqr ⟨h8, hs⟩
      have hs2 : ∀ t ∈ plL p, IsStep t := plL_steps hs
      have h82 : (plL p).length ≤ 8 := by rw [plL_len]; have := red_len p; omega
      have hc2 := en_pl hF s0 s1 hs hcl
      rw [eq] at t2
      have e3 := t2.un hF s0 s1 hs2 h82 hc2
      have h2 := (t2.ok e3).2.2.2.2.2.2
      rw [tr_pl hF s0 s1 hs h8 hcl hs2 h82, ← htr] at h2
      simp only [Prod.mk.injEq] at h2
      exact ⟨e1, e2, e3, h2.1, h2.2⟩
    · exact .inl e1
  have second : r3 ≠ 0 ∨ (r3 = 0 ∧ rm ≠ 0) ∨ (r3 = 0 ∧ rm = 0 ∧ r4 = 0 ∧ x4 = x3 ∧ y4 = y3) := by
    by_cases d1 : r3 = 0
    · by_cases d2 : rm = 0
      · right; right
        obtain ⟨hF, s0, s1, hV, hv⟩ := v1.ok d1
        obtain ⟨eM, hvM⟩ := hM0 d2
        obtain ⟨hV2, hS⟩ := val_plain hF s0 s1 hV.raw eM hvM
        have d3 := v2.un hF s0 s1 hV2
        have h2 := (v2.ok d3).2.2.2.2
        rw [valR_eq hS, ← hv] at h2
        simp only [Prod.mk.injEq] at h2
        exact ⟨d1, d2, d3, h2.1, h2.2⟩
      · exact .inr (.inl ⟨d1, d2⟩)
    · exact .inl d1
  rcases first with e1 | ⟨e1, e2, e3, e4, e5⟩
  · rcases second with d1 | ⟨d1, d2⟩ | ⟨d1, d2, d3, d4, d5⟩
    · exact lpv_10 a b c s x1 y1 r1 x2 y2 r2 x3 y3 r3 x4 y4 r4 rp rm fo ao lo cap pc lc L p q l M w hL hp h (by omega) hLg hMa t1 hq t2 v1 hPl v2 e1 d1
    · exact lpv_11 a b c s x1 y1 r1 x2 y2 r2 x3 y3 r3 x4 y4 r4 rp rm fo ao lo cap pc lc L p q l M w hL hp h (by omega) hLg hMa t1 hq t2 v1 hPl v2 e1 d1 d2
    · exact lpv_12 a b c s x1 y1 r1 x2 y2 r2 x3 y3 r3 x4 y4 r4 rp rm fo ao lo cap pc lc L p q l M w hL hp h (by omega) hLg hMa t1 hq t2 v1 hPl v2 e1 d1 d2 d3 d4 d5
  · rcases second with d1 | ⟨d1, d2⟩ | ⟨d1, d2, d3, d4, d5⟩
    · exact lpv_00 a b c s x1 y1 r1 x2 y2 r2 x3 y3 r3 x4 y4 r4 rp rm fo ao lo cap pc lc L p q l M w hL hp h (by omega) hLg hMa t1 hq t2 v1 hPl v2 e1 e2 e3 e4 e5 d1
    · exact lpv_01 a b c s x1 y1 r1 x2 y2 r2 x3 y3 r3 x4 y4 r4 rp rm fo ao lo cap pc lc L p q l M w hL hp h (by omega) hLg hMa t1 hq t2 v1 hPl v2 e1 e2 e3 e4 e5 d1 d2
    · exact lpv_02 a b c s x1 y1 r1 x2 y2 r2 x3 y3 r3 x4 y4 r4 rp rm fo ao lo cap pc lc L p q l M w hL hp h (by omega) hLg hMa t1 hq t2 v1 hPl v2 e1 e2 e3 e4 e5 d1 d2 d3 d4 d5

/-! ### The statement of the law LoopPlainValues, out of its walk -/
set_option maxRecDepth 100000 in
theorem loopPlainValues_lifted (os : Os) (started : os.Started) (H : Type) (enc : TypeId × Value → H) :
    ReturnsInHanded {} Try.checked os 8 .any (Rows.loopPlainValuesSpec.pre6 enc Try.prog Try.f8 Rows.loopPlainValuesRow.domain false) (Rows.loopPlainValuesSpec.post enc Try.prog Try.f8 false true false false) := by
  refine returnsInHanded_of_change (C := Try.checked) own started (by kernel_rfl) Try.func8
    (ChangeSpec.witness6 (enc := enc) (C := Try.checked) false ⟨#[], #[.agg #[.int .i64 0, .int .i64 0, .int .i64 0, .slice none 0 0], .agg #[.int .i64 0, .slice none 0 0], .slice none 0 0], []⟩ 8 (by kernel_rfl) (by kernel_rfl) (by kernel_rfl) (by kernel_rfl)) ?_
  intro W base args ds gs before hval0 hW hcnd _
  have hval : ∀ (j : Nat) t v, Try.f8.params[j]? = some t → args[j]? = some v → Value.okWide Try.prog W .any base t v := hval0
  have hW' := hW
  obtain ⟨p, q, hA0, hV, rfl, hfz, hnd⟩ := hW
  have hA : DataW.TrodAll enc Try.prog W 0 (fun _ => true) true Try.f8.params.toList args.toList ds p := hA0
  rw [Try.params8] at hA hval
  obtain ⟨v0, vs0, d0, ds0, p0, q0, hargs, rfl, rfl, h0, r0⟩ := trodAll_cons hA
  obtain ⟨v1, vs1, d1, ds1, p1, q1, rfl, rfl, rfl, h1, r1⟩ := trodAll_cons r0
  obtain ⟨v2, vs2, d2, ds2, p2, q2, rfl, rfl, rfl, h2, r2⟩ := trodAll_cons r1
  obtain ⟨rfl, rfl, rfl⟩ := trodAll_nil r2
  obtain rfl : args = #[v0, v1, v2] := by cases args; simp_all
  obtain ⟨rfl, rfl⟩ := trodVars_none hV
  have k0 := h0
  have lt0 : ∀ x ∈ p0, x.block < W.heap.size := by obtain ⟨m, hm⟩ := k0; exact DataW.trod_lt m _ _ _ hm
  obtain ⟨x0, y0, z0, ao0, L0, cap0, rfl, hl0, hm0⟩ := open_field (hval 0 47 v0 rfl rfl) h0
  have k1 := h1
  have lt1 : ∀ x ∈ p1, x.block < W.heap.size := by obtain ⟨m, hm⟩ := k1; exact DataW.trod_lt m _ _ _ hm
  obtain ⟨s1, ao1, l1, cap1, rfl, hl1, hc1, hm1⟩ := open_path (hval 1 49 v1 rfl rfl) h1
  have k2 := h2
  have lt2 : ∀ x ∈ p2, x.block < W.heap.size := by obtain ⟨m, hm⟩ := k2; exact DataW.trod_lt m _ _ _ hm
  obtain ⟨po2, l2, pc2, rfl, hkl2, hkp2, hkt2⟩ := open_terms (hval 2 29 v2 rfl rfl) h2
  clear hA0 hval0
  refine (loopPlainValues_walk x0 y0 z0 ao0 L0 cap0 s1 ao1 l1 cap1 po2 l2 pc2 W hl0 hm0 hl1 hc1 hm1 hkl2 hkp2 hkt2).mono fun e W' ⟨he, bel⟩ => ?_
  subst he
  exact ⟨_, rfl, _, _, _, [], _, [], hW', trodAll_mk1 (shut_bool Try.underlying4 _), (trodAll_cons_mk (Below.trod laidOut (by kernel_rfl) (of_decide_eq_true (by kernel_rfl)) k0 bel lt0) (trodAll_cons_mk (Below.trod laidOut (by kernel_rfl) (of_decide_eq_true (by kernel_rfl)) k1 bel lt1) (trodAll_cons_mk (Below.trod laidOut (by kernel_rfl) (of_decide_eq_true (by kernel_rfl)) k2 bel lt2) trodAll_mk0))), rfl, bel.frame _, fun h => by cases h⟩

theorem loopPlainValues_jf9 : (Rows.loopPlainValuesRow.inPlace == Try.prog.inPlace 8) = true := by kernel_rfl
theorem loopPlainValues_jf10 : (Rows.loopPlainValuesRow.unfollowed == Try.prog.unfollowed 8) = true := by kernel_rfl
theorem loopPlainValues_jf11 : (Rows.loopPlainValuesRow.recurses == Try.prog.recurses 8) = true := by kernel_rfl
theorem loopPlainValues_jf12 : (Rows.loopPlainValuesRow.named == Try.prog.varsNamed 8) = true := by kernel_rfl
theorem loopPlainValues_facts : joinedFacts Try.prog 8 Try.f8 Rows.loopPlainValuesSpec Rows.loopPlainValuesRow = true := by
  unfold joinedFacts
  exact (band (band (band (band (band (band (band (band (band (band (band (band (band (band (band (band (band (band (band (band (band (band (band (band (band (band (band (band (band (band (band (by kernel_rfl) jf1) jf2) (by kernel_rfl)) (by kernel_rfl)) (by kernel_rfl)) jf6) (by kernel_rfl)) jf8) loopPlainValues_jf9) loopPlainValues_jf10) loopPlainValues_jf11) loopPlainValues_jf12) (by kernel_rfl)) (by kernel_rfl)) (by kernel_rfl)) (by kernel_rfl)) (by kernel_rfl)) (by kernel_rfl)) (by kernel_rfl)) (by kernel_rfl)) (by kernel_rfl)) (by kernel_rfl)) (by kernel_rfl)) jf24) jf25) jf26) jf27) (by kernel_rfl)) (by kernel_rfl)) (by kernel_rfl)) (by kernel_rfl))

theorem loopPlainValues_over : Rows.loopPlainValuesRow.holds Try.pinned (OpenSpec.ofChange Rows.loopPlainValuesSpec) :=
  OpenClaim.holds_of_wide 8 Try.f8 rfl rfl rfl rfl rfl rfl rfl ⟨rfl, rfl, rfl, rfl, rfl⟩ rfl rfl rfl rfl rfl (by kernel_rfl) Try.func8 loopPlainValues_facts
    (of_decide_eq_true (by kernel_rfl)) (by unfold Func.isWrapper; first | (rw [if_pos (by decide +kernel)]; kernel_rfl) | (rw [if_neg (by decide +kernel)]; exact ⟨rfl, rfl⟩))
    (fun os started H enc _ => loopPlainValues_lifted os started H enc)

theorem loopPlainValues_holds : Rows.LoopPlainValuesSaid := loopPlainValues_over
#print axioms loopPlainValues_holds

end Go.Proofs.Ytjidbajcnomceaa
