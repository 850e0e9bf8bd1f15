/- A trajectory, as the document's answers make it.
Conditions: those written at each theorem. -/
import Derived.Test.YtilbhcjnkmeecaaGreatPkKzM
import Derived.Test.YtilbhcjnkmeecaaGreatPkKqM
import Derived.Test.YtilbhcjnkmeecaaGreatPkSamF
import Derived.Test.YtilbhcjnkmeecaaGreatPkSane6
import Derived.Test.YtilbhcjnkmeecaaGreatPkLawValK
import Derived.Test.YtilbhcjnkmeecaaGreatPkOpenKA
import Derived.Test.YtilbhcjnkmeecaaGreatPkJFacts
namespace Go.Proofs.YtilbhcjnkmeecaaGreat
set_option linter.unusedVariables false
set_option linter.unusedSimpArgs false
set_option maxRecDepth 1000000
open Go.RowKit
open Um Tm Cm Km

/-- what a trajectory answers -/
def RetTR (a b c : Int) (m n : Nat) (L : List Q) (t : Int) (q : Bool) (e : Ending) (w' : World) : Prop := ∃ g k : Nat, e = .returned (.tuple #[.agg #[.int .i64 a, .int .i64 b, .int .i64 c, .slice (some ⟨g, 0, none⟩) n k], .int .i64 t, .bool q, .int .i64 0]) ∧ Lies w' g 0 L ∧ m ≤ g
theorem liesO_rr {W : World} {ao : Option Addr} {L : List Q} (h : LiesO W ao L) (d : Nat) (os : Array Obj) : LiesO (Sort.grow (redrawn W d) os) ao L := by
  rcases h with rfl | ⟨b, o, rfl, h⟩
  · exact .inl rfl
  · exact .inr ⟨b, o, rfl, lies_rr h d os⟩
set_option maxHeartbeats 12800000 in
theorem trajR_field (a b c s x be r t2 tm d c1 c2 p1 p2 : Int) (ao : Option Addr) (m cap n : Nat) (L L4 : List Q) (l4 lm : List Int) (w : World) (hm : LiesO w ao L) (h0 : r ≠ 0)
    (hS : ∀ W : World, LiesO W ao L → Calls Tryz.prog 45 #[.agg #[.int .i64 a, .int .i64 b, .int .i64 c, .slice ao m cap]] W fun e w' => e = .returned (.int .i64 r) ∧ Below W.heap.size W w')
    : Calls Tryz.prog 24 #[.agg #[.int .i64 a, .int .i64 b, .int .i64 c, .slice ao m cap], .int .i64 s, .int .i64 x, .int .i64 be] w fun e w' => e = .returned (.tuple #[.agg #[.int .i64 0, .int .i64 0, .int .i64 0, .slice none 0 0], .int .i64 0, .bool false, .int .i64 r]) ∧ Below w.heap.size w w' := by
  have h0a : (r != 0) = true := by simpa using h0
  have H0 := Lib.hid hm
  clear hm h0
  go_enter Tryz.func24, Tryz.ntmps24
  go_wp2_with (fail)
  refine (hS _ (H0.out.later ba2)).mono ?_
  rintro e w1 ⟨rfl, hw1⟩
  have bw1 : Below w.heap.size w w1 := bel2 hw1
  have TF1 := Lib.hid (FW.n2a.later hw1)
  have TR1 := Lib.hid (FW.n2b.later hw1)
  have H1 := Lib.hid (H0.out.later bw1)
  have HB1 := Lib.hid bw1
  clear hw1 bw1 H0
  obtain ⟨tf1_0, tf1_1, tf1_2, tf1_3, tf1_4, tf1_5⟩ := TF1.out
  obtain ⟨tr1_0, tr1_1, tr1_2, tr1_3, tr1_4, tr1_5⟩ := TR1.out
  go_wp2_with (fail)
  refine bodyPost_ret (v := .tuple #[.agg #[.int .i64 0, .int .i64 0, .int .i64 0, .slice none 0 0], .int .i64 0, .bool false, .int .i64 r]) (by simp [results, Tryz.results24, go_sem, tr1_0, tr1_1, tr1_2, tr1_3, tr1_4, tr1_5]) rfl ⟨rfl, ?_⟩
  have hb := HB1.out
  repeat (first | (with_reducible exact Below.refl _ _) | (with_reducible refine Below.setCell ?_ ?_ _) | (with_reducible refine Below.drew ?_) | (with_reducible refine Below.alloc ?_ ?_ _) | (with_reducible refine Below.trans ?_ (Below.mono hb ?_)) | (with_reducible exact hb.size) | omega | (simp <;> omega) | (simp <;> (have s := hb.size; omega)) | (have s0 := hb.size; (try simp at s0); (try simp); omega))

set_option maxHeartbeats 12800000 in
theorem trajR_seed (a b c s x be r t2 tm d c1 c2 p1 p2 : Int) (ao : Option Addr) (m cap n : Nat) (L L4 : List Q) (l4 lm : List Int) (w : World) (hm : LiesO w ao L)
    (hS : ∀ W : World, LiesO W ao L → Calls Tryz.prog 45 #[.agg #[.int .i64 a, .int .i64 b, .int .i64 c, .slice ao m cap]] W fun e w' => e = .returned (.int .i64 0) ∧ Below W.heap.size W w')
    (hI : ∀ W : World, Calls Tryz.prog 46 #[.int .i64 s] W fun e w' => e = .returned (.bool false) ∧ W = w')
    : Calls Tryz.prog 24 #[.agg #[.int .i64 a, .int .i64 b, .int .i64 c, .slice ao m cap], .int .i64 s, .int .i64 x, .int .i64 be] w fun e w' => e = .returned (.tuple #[.agg #[.int .i64 0, .int .i64 0, .int .i64 0, .slice none 0 0], .int .i64 0, .bool false, .int .i64 1]) ∧ Below w.heap.size w w' := by
  have H0 := Lib.hid hm
  clear hm
  go_enter Tryz.func24, Tryz.ntmps24
  go_wp2_with (fail)
  refine (hS _ (H0.out.later ba2)).mono ?_
  rintro e w1 ⟨rfl, hw1⟩
  have bw1 : Below w.heap.size w w1 := bel2 hw1
  have TF1 := Lib.hid (FW.n2a.later hw1)
  have TR1 := Lib.hid (FW.n2b.later hw1)
  have H1 := Lib.hid (H0.out.later bw1)
  have HB1 := Lib.hid bw1
  clear hw1 bw1 H0
  obtain ⟨tf1_0, tf1_1, tf1_2, tf1_3, tf1_4, tf1_5⟩ := TF1.out
  obtain ⟨tr1_0, tr1_1, tr1_2, tr1_3, tr1_4, tr1_5⟩ := TR1.out
  go_wp2_with (fail)
  refine (hI _).mono ?_
  rintro e wx ⟨rfl, rfl⟩
  go_wp2_with (fail)
  refine bodyPost_ret (v := .tuple #[.agg #[.int .i64 0, .int .i64 0, .int .i64 0, .slice none 0 0], .int .i64 0, .bool false, .int .i64 1]) (by simp [results, Tryz.results24, go_sem, tr1_0, tr1_1, tr1_2, tr1_3, tr1_4, tr1_5]) rfl ⟨rfl, ?_⟩
  have hb := HB1.out
  repeat (first | (with_reducible exact Below.refl _ _) | (with_reducible refine Below.setCell ?_ ?_ _) | (with_reducible refine Below.drew ?_) | (with_reducible refine Below.alloc ?_ ?_ _) | (with_reducible refine Below.trans ?_ (Below.mono hb ?_)) | (with_reducible exact hb.size) | omega | (simp <;> omega) | (simp <;> (have s := hb.size; omega)) | (have s0 := hb.size; (try simp at s0); (try simp); omega))

set_option maxHeartbeats 12800000 in
theorem trajR_steps (a b c s x be r t2 tm d c1 c2 p1 p2 : Int) (ao : Option Addr) (m cap n : Nat) (L L4 : List Q) (l4 lm : List Int) (w : World) (hm : LiesO w ao L)
    (hS : ∀ W : World, LiesO W ao L → Calls Tryz.prog 45 #[.agg #[.int .i64 a, .int .i64 b, .int .i64 c, .slice ao m cap]] W fun e w' => e = .returned (.int .i64 0) ∧ Below W.heap.size W w')
    (hI : ∀ W : World, Calls Tryz.prog 46 #[.int .i64 s] W fun e w' => e = .returned (.bool true) ∧ W = w')
    (hW1 : ∀ W : World, Calls Tryz.prog 38 #[.int .i64 x, .int .i64 0, .int .i64 100] W fun e w' => e = .returned (.bool false) ∧ W = w')
    : Calls Tryz.prog 24 #[.agg #[.int .i64 a, .int .i64 b, .int .i64 c, .slice ao m cap], .int .i64 s, .int .i64 x, .int .i64 be] w fun e w' => e = .returned (.tuple #[.agg #[.int .i64 0, .int .i64 0, .int .i64 0, .slice none 0 0], .int .i64 0, .bool false, .int .i64 1]) ∧ Below w.heap.size w w' := by
  have H0 := Lib.hid hm
  clear hm
  go_enter Tryz.func24, Tryz.ntmps24
  go_wp2_with (fail)
  refine (hS _ (H0.out.later ba2)).mono ?_
  rintro e w1 ⟨rfl, hw1⟩
  have bw1 : Below w.heap.size w w1 := bel2 hw1
  have TF1 := Lib.hid (FW.n2a.later hw1)
  have TR1 := Lib.hid (FW.n2b.later hw1)
  have H1 := Lib.hid (H0.out.later bw1)
  have HB1 := Lib.hid bw1
  clear hw1 bw1 H0
  obtain ⟨tf1_0, tf1_1, tf1_2, tf1_3, tf1_4, tf1_5⟩ := TF1.out
  obtain ⟨tr1_0, tr1_1, tr1_2, tr1_3, tr1_4, tr1_5⟩ := TR1.out
  go_wp2_with (fail)
  refine (hI _).mono ?_
  rintro e wx ⟨rfl, rfl⟩
  go_wp2_with (fail)
  refine (hW1 _).mono ?_
  rintro e wx ⟨rfl, rfl⟩
  go_wp2_with (fail)
  refine bodyPost_ret (v := .tuple #[.agg #[.int .i64 0, .int .i64 0, .int .i64 0, .slice none 0 0], .int .i64 0, .bool false, .int .i64 1]) (by simp [results, Tryz.results24, go_sem, tr1_0, tr1_1, tr1_2, tr1_3, tr1_4, tr1_5]) rfl ⟨rfl, ?_⟩
  have hb := HB1.out
  repeat (first | (with_reducible exact Below.refl _ _) | (with_reducible refine Below.setCell ?_ ?_ _) | (with_reducible refine Below.drew ?_) | (with_reducible refine Below.alloc ?_ ?_ _) | (with_reducible refine Below.trans ?_ (Below.mono hb ?_)) | (with_reducible exact hb.size) | omega | (simp <;> omega) | (simp <;> (have s := hb.size; omega)) | (have s0 := hb.size; (try simp at s0); (try simp); omega))

set_option maxHeartbeats 12800000 in
theorem trajR_beta (a b c s x be r t2 tm d c1 c2 p1 p2 : Int) (ao : Option Addr) (m cap n : Nat) (L L4 : List Q) (l4 lm : List Int) (w : World) (hm : LiesO w ao L)
    (hS : ∀ W : World, LiesO W ao L → Calls Tryz.prog 45 #[.agg #[.int .i64 a, .int .i64 b, .int .i64 c, .slice ao m cap]] W fun e w' => e = .returned (.int .i64 0) ∧ Below W.heap.size W w')
    (hI : ∀ W : World, Calls Tryz.prog 46 #[.int .i64 s] W fun e w' => e = .returned (.bool true) ∧ W = w')
    (hW1 : ∀ W : World, Calls Tryz.prog 38 #[.int .i64 x, .int .i64 0, .int .i64 100] W fun e w' => e = .returned (.bool true) ∧ W = w')
    (hW2 : ∀ W : World, Calls Tryz.prog 38 #[.int .i64 be, .int .i64 0, .int .i64 10] W fun e w' => e = .returned (.bool false) ∧ W = w')
    : Calls Tryz.prog 24 #[.agg #[.int .i64 a, .int .i64 b, .int .i64 c, .slice ao m cap], .int .i64 s, .int .i64 x, .int .i64 be] w fun e w' => e = .returned (.tuple #[.agg #[.int .i64 0, .int .i64 0, .int .i64 0, .slice none 0 0], .int .i64 0, .bool false, .int .i64 1]) ∧ Below w.heap.size w w' := by
  have H0 := Lib.hid hm
  clear hm
  go_enter Tryz.func24, Tryz.ntmps24
  go_wp2_with (fail)
  refine (hS _ (H0.out.later ba2)).mono ?_
  rintro e w1 ⟨rfl, hw1⟩
  have bw1 : Below w.heap.size w w1 := bel2 hw1
  have TF1 := Lib.hid (FW.n2a.later hw1)
  have TR1 := Lib.hid (FW.n2b.later hw1)
  have H1 := Lib.hid (H0.out.later bw1)
  have HB1 := Lib.hid bw1
  clear hw1 bw1 H0
  obtain ⟨tf1_0, tf1_1, tf1_2, tf1_3, tf1_4, tf1_5⟩ := TF1.out
  obtain ⟨tr1_0, tr1_1, tr1_2, tr1_3, tr1_4, tr1_5⟩ := TR1.out
  go_wp2_with (fail)
  refine (hI _).mono ?_
  rintro e wx ⟨rfl, rfl⟩
  go_wp2_with (fail)
  refine (hW1 _).mono ?_
  rintro e wx ⟨rfl, rfl⟩
  go_wp2_with (fail)
  refine (hW2 _).mono ?_
  rintro e wx ⟨rfl, rfl⟩
  go_wp2_with (fail)
  refine bodyPost_ret (v := .tuple #[.agg #[.int .i64 0, .int .i64 0, .int .i64 0, .slice none 0 0], .int .i64 0, .bool false, .int .i64 1]) (by simp [results, Tryz.results24, go_sem, tr1_0, tr1_1, tr1_2, tr1_3, tr1_4, tr1_5]) rfl ⟨rfl, ?_⟩
  have hb := HB1.out
  repeat (first | (with_reducible exact Below.refl _ _) | (with_reducible refine Below.setCell ?_ ?_ _) | (with_reducible refine Below.drew ?_) | (with_reducible refine Below.alloc ?_ ?_ _) | (with_reducible refine Below.trans ?_ (Below.mono hb ?_)) | (with_reducible exact hb.size) | omega | (simp <;> omega) | (simp <;> (have s := hb.size; omega)) | (have s0 := hb.size; (try simp at s0); (try simp); omega))

set_option maxHeartbeats 12800000 in
theorem trajR_acc (a b c s x be r t2 tm d c1 c2 p1 p2 : Int) (ao : Option Addr) (m cap n : Nat) (L L4 : List Q) (l4 lm : List Int) (w : World) (hm : LiesO w ao L) (b1 : IntKind.i64.wrap (be * p1) = be * p1) (b2 : IntKind.i64.wrap (be * p2) = be * p2) (b3 : IntKind.i64.wrap (c1 + be * p1) = c1 + be * p1) (b4 : IntKind.i64.wrap (c2 + be * p2) = c2 + be * p2) (b5 : IntKind.i64.wrap (c2 + be * p2 - (c1 + be * p1)) = c2 + be * p2 - (c1 + be * p1))
    (hS : ∀ W : World, LiesO W ao L → Calls Tryz.prog 45 #[.agg #[.int .i64 a, .int .i64 b, .int .i64 c, .slice ao m cap]] W fun e w' => e = .returned (.int .i64 0) ∧ Below W.heap.size W w')
    (hI : ∀ W : World, Calls Tryz.prog 46 #[.int .i64 s] W fun e w' => e = .returned (.bool true) ∧ W = w')
    (hW1 : ∀ W : World, Calls Tryz.prog 38 #[.int .i64 x, .int .i64 0, .int .i64 100] W fun e w' => e = .returned (.bool true) ∧ W = w')
    (hW2 : ∀ W : World, Calls Tryz.prog 38 #[.int .i64 be, .int .i64 0, .int .i64 10] W fun e w' => e = .returned (.bool true) ∧ W = w')
    (hM : ∀ W : World, Calls Tryz.prog 47 #[.int .i64 m, .int .i64 s] W fun e w' => (∃ g k : Nat, e = .returned (.tuple #[.slice (some ⟨g, 0, none⟩) n k, .int .i64 tm]) ∧ LiesI w' g 0 lm ∧ W.heap.size ≤ g) ∧ Below W.heap.size W w')
    (hR : ∀ (W : World) (gm km : Nat), LiesO W ao L → LiesI W gm 0 lm → Calls Tryz.prog 21 #[.agg #[.int .i64 a, .int .i64 b, .int .i64 c, .slice ao m cap], .slice (some ⟨gm, 0, none⟩) n km, .int .i64 x] W fun e w' => RetSE a b c W.heap.size n (L4, l4) e w' ∧ Below W.heap.size W w')
    (hD : ∀ W : World, Calls Tryz.prog 48 #[.int .i64 tm, .int .i64 1073741824] W fun e w' => e = .returned (.tuple #[.int .i64 d, .int .i64 t2]) ∧ W = w')
    (k1 : ∀ (W : World) (g k : Nat), LiesI W g 0 lm → Calls Tryz.prog 49 #[.slice (some ⟨g, 0, none⟩) n k] W fun e w' => e = .returned (.int .i64 c1) ∧ Below W.heap.size W w')
    (k2 : ∀ (W : World) (g k : Nat), LiesI W g 0 l4 → Calls Tryz.prog 49 #[.slice (some ⟨g, 0, none⟩) n k] W fun e w' => e = .returned (.int .i64 c2) ∧ Below W.heap.size W w')
    (q1 : ∀ W : World, LiesO W ao L → Calls Tryz.prog 50 #[.agg #[.int .i64 a, .int .i64 b, .int .i64 c, .slice ao m cap]] W fun e w' => e = .returned (.int .i64 p1) ∧ Below W.heap.size W w')
    (q2 : ∀ (W : World) (g k : Nat), Lies W g 0 L4 → Calls Tryz.prog 50 #[.agg #[.int .i64 a, .int .i64 b, .int .i64 c, .slice (some ⟨g, 0, none⟩) n k]] W fun e w' => e = .returned (.int .i64 p2) ∧ Below W.heap.size W w')
    (hA : ∀ W : World, Calls Tryz.prog 51 #[.int .i64 (c2 + be * p2 - (c1 + be * p1)), .int .i64 d] W fun e w' => e = .returned (.bool true) ∧ W = w')
    : Calls Tryz.prog 24 #[.agg #[.int .i64 a, .int .i64 b, .int .i64 c, .slice ao m cap], .int .i64 s, .int .i64 x, .int .i64 be] w fun e w' => RetTR a b c w.heap.size n L4 t2 true e w' ∧ Below w.heap.size w w' := by
  have H0 := Lib.hid hm
  clear hm
  have kc := @Tail.cell_re
  have kc1 : ∀ (W : World) (o : Obj) (d : Nat) (os : Array Obj) (a : Addr), a.block ≤ W.heap.size → (Sort.grow (redrawn (W.alloc o) d) os).cell? a = (W.alloc o).cell? a := fun W o d os a h => Tail.cell_re (W.alloc o) d os a (Nat.lt_of_le_of_lt h (by simp))
  go_enter Tryz.func24, Tryz.ntmps24
  go_wp2_with (fail)
  refine (hS _ (H0.out.later ba2)).mono ?_
  rintro e w1 ⟨rfl, hw1⟩
  have bw1 : Below w.heap.size w w1 := bel2 hw1
  have TF1 := Lib.hid (FW.n2a.later hw1)
  have TR1 := Lib.hid (FW.n2b.later hw1)
  have H1 := Lib.hid (H0.out.later bw1)
  have HB1 := Lib.hid bw1
  clear hw1 bw1 H0
  obtain ⟨tf1_0, tf1_1, tf1_2, tf1_3, tf1_4, tf1_5⟩ := TF1.out
  obtain ⟨tr1_0, tr1_1, tr1_2, tr1_3, tr1_4, tr1_5⟩ := TR1.out
  go_wp2_with (fail)
  refine (hI _).mono ?_
  rintro e wx ⟨rfl, rfl⟩
  go_wp2_with (fail)
  refine (hW1 _).mono ?_
  rintro e wx ⟨rfl, rfl⟩
  go_wp2_with (fail)
  refine (hW2 _).mono ?_
  rintro e wx ⟨rfl, rfl⟩
  go_wp2_with (fail)
  refine (hM _).mono ?_
  rintro e w2 ⟨⟨g1, k1n, rfl, hlm, -⟩, hw2⟩
  clear tf1_0 tf1_1 tf1_2 tf1_3 tf1_4 tf1_5 tr1_0 tr1_1 tr1_2 tr1_3 tr1_4 tr1_5
  have bw2 : Below w1.heap.size w1 w2 := hw2
  have H2 := Lib.hid (H1.out.later bw2)
  have TF2 := Lib.hid (TF1.out.later bw2)
  have TR2 := Lib.hid (TR1.out.later bw2)
  have HB2 := Lib.hid (HB1.out.trans (bw2.mono HB1.out.size))
  have M2 := Lib.hid hlm
  clear hlm
  clear hw2 bw2 H1 TF1 TR1 HB1
  obtain ⟨tf2_0, tf2_1, tf2_2, tf2_3, tf2_4, tf2_5⟩ := TF2.out
  obtain ⟨tr2_0, tr2_1, tr2_2, tr2_3, tr2_4, tr2_5⟩ := TR2.out
  go_wp2_with (fail)
  refine (hR _ _ _ (H2.out) (M2.out)).mono ?_
  rintro e w3 ⟨⟨g4, k4, m4, j4, rfl, hb4, hi4, hg4, -⟩, hw3⟩
  have q4 : w.heap.size + 1 < g4 := by have h1 := TR2.out.lt; omega
  clear tf2_0 tf2_1 tf2_2 tf2_3 tf2_4 tf2_5 tr2_0 tr2_1 tr2_2 tr2_3 tr2_4 tr2_5
  have bw3 : Below w2.heap.size w2 w3 := hw3
  have H3 := Lib.hid (H2.out.later bw3)
  have TF3 := Lib.hid (TF2.out.later bw3)
  have TR3 := Lib.hid (TR2.out.later bw3)
  have M3 := Lib.hid (M2.out.later bw3)
  have HB3 := Lib.hid (HB2.out.trans (bw3.mono HB2.out.size))
  have BL3 := Lib.hid hb4
  clear hb4
  have IL3 := Lib.hid hi4
  clear hi4
  clear hw3 bw3 H2 TF2 TR2 M2 HB2
  obtain ⟨tf3_0, tf3_1, tf3_2, tf3_3, tf3_4, tf3_5⟩ := TF3.out
  obtain ⟨tr3_0, tr3_1, tr3_2, tr3_3, tr3_4, tr3_5⟩ := TR3.out
  go_wp2_with (fail)
  refine (hD _).mono ?_
  rintro e wx ⟨rfl, rfl⟩
  go_wp2_with (fail)
  have Hx := Lib.hid (H3.out.later (ba1 (o := .cells #[.int .i64 a, .int .i64 b, .int .i64 c, .slice (some ⟨g4, 0, none⟩) n k4] 25)))
  have TFx := Lib.hid (TF3.out.later (ba1 (o := .cells #[.int .i64 a, .int .i64 b, .int .i64 c, .slice (some ⟨g4, 0, none⟩) n k4] 25)))
  have TRx := Lib.hid (TR3.out.later (ba1 (o := .cells #[.int .i64 a, .int .i64 b, .int .i64 c, .slice (some ⟨g4, 0, none⟩) n k4] 25)))
  have Mx := Lib.hid (M3.out.later (ba1 (o := .cells #[.int .i64 a, .int .i64 b, .int .i64 c, .slice (some ⟨g4, 0, none⟩) n k4] 25)))
  have BLx := Lib.hid (BL3.out.later (ba1 (o := .cells #[.int .i64 a, .int .i64 b, .int .i64 c, .slice (some ⟨g4, 0, none⟩) n k4] 25)))
  have ILx := Lib.hid (IL3.out.later (ba1 (o := .cells #[.int .i64 a, .int .i64 b, .int .i64 c, .slice (some ⟨g4, 0, none⟩) n k4] 25)))
  have TGx : Hid (FW (w3.alloc (.cells #[.int .i64 a, .int .i64 b, .int .i64 c, .slice (some ⟨g4, 0, none⟩) n k4] 25)) w3.heap.size a b c (.slice (some ⟨g4, 0, none⟩) n k4)) := Lib.hid FW.n1
  have HBx := Lib.hid (HB3.out.trans ((ba1 (o := .cells #[.int .i64 a, .int .i64 b, .int .i64 c, .slice (some ⟨g4, 0, none⟩) n k4] 25)).mono HB3.out.size))
  have q5 : w.heap.size + 1 < w3.heap.size := TR3.out.lt
  clear tf3_0 tf3_1 tf3_2 tf3_3 tf3_4 tf3_5 tr3_0 tr3_1 tr3_2 tr3_3 tr3_4 tr3_5 H3 TF3 TR3 M3 BL3 IL3 HB3
  generalize w3.alloc (.cells #[.int .i64 a, .int .i64 b, .int .i64 c, .slice (some ⟨g4, 0, none⟩) n k4] 25) = W0 at *
  generalize hto : w3.heap.size = to at *
  clear hto
  have H4 := Hx
  have TF4 := TFx
  have TR4 := TRx
  have M4 := Mx
  have BL4 := BLx
  have IL4 := ILx
  have TG4 := TGx
  have HB4 := HBx
  clear TGx HBx Hx TFx TRx Mx BLx ILx
  obtain ⟨tf4_0, tf4_1, tf4_2, tf4_3, tf4_4, tf4_5⟩ := TF4.out
  obtain ⟨tr4_0, tr4_1, tr4_2, tr4_3, tr4_4, tr4_5⟩ := TR4.out
  obtain ⟨tg4_0, tg4_1, tg4_2, tg4_3, tg4_4, tg4_5⟩ := TG4.out
  go_wp2_with (fail)
  refine Tail.region_below (by kernel_rfl) (by kernel_rfl) ?_
  repeat (go_big_quiet_step (first | (with_reducible exact Calls.regrown_of (k1 _ _ _ (liesI_rr M4.out _ _))) | (with_reducible exact Calls.regrown_of (k2 _ _ _ (liesI_rr IL4.out _ _))) | (with_reducible exact Calls.regrown_of (q1 _ (liesO_rr H4.out _ _))) | (with_reducible exact Calls.regrown_of (q2 _ _ _ (lies_rr BL4.out _ _)))))
  refine wpQuiet_nil ?_
  intro w5 hw5
  clear tf4_0 tf4_1 tf4_2 tf4_3 tf4_4 tf4_5 tr4_0 tr4_1 tr4_2 tr4_3 tr4_4 tr4_5 tg4_0 tg4_1 tg4_2 tg4_3 tg4_4 tg4_5
  have H5 := Lib.hid (H4.out.later hw5)
  have TF5 := Lib.hid (TF4.out.later hw5)
  have TR5 := Lib.hid (TR4.out.later hw5)
  have M5 := Lib.hid (M4.out.later hw5)
  have BL5 := Lib.hid (BL4.out.later hw5)
  have IL5 := Lib.hid (IL4.out.later hw5)
  have TG5 := Lib.hid (TG4.out.later hw5)
  have HB5 := Lib.hid (HB4.out.trans (hw5.mono HB4.out.size))
  clear hw5 HB4 H4 TF4 TR4 M4 BL4 IL4 TG4
  obtain ⟨tf5_0, tf5_1, tf5_2, tf5_3, tf5_4, tf5_5⟩ := TF5.out
  obtain ⟨tr5_0, tr5_1, tr5_2, tr5_3, tr5_4, tr5_5⟩ := TR5.out
  obtain ⟨tg5_0, tg5_1, tg5_2, tg5_3, tg5_4, tg5_5⟩ := TG5.out
  go_wp2_with (fail)
  refine (hA _).mono ?_
  rintro e wx ⟨rfl, rfl⟩
  have Gs := grown_setCells (w.heap.size + 1) [.int .i64 a, .int .i64 b, .int .i64 c, .slice (some ⟨g4, 0, none⟩) n k4] 0 w5
  go_wp2_with (fail)
  refine bodyPost_ret (v := .tuple #[.agg #[.int .i64 a, .int .i64 b, .int .i64 c, .slice (some ⟨g4, 0, none⟩) n k4], .int .i64 t2, .bool true, .int .i64 0]) (by simp [results, Tryz.results24, go_sem, tr5_0, tr5_1, tr5_2, tr5_3, tr5_4, tr5_5, tg5_0, tg5_1, tg5_2, tg5_3, tg5_4, tg5_5]) rfl ⟨⟨g4, k4, rfl, lies_grown BL5.out Gs (by simp; omega), by omega⟩, ?_⟩
  have hb := HB5.out
  repeat (first | (with_reducible exact Below.refl _ _) | (with_reducible refine Below.setCell ?_ ?_ _) | (with_reducible refine Below.drew ?_) | (with_reducible refine Below.alloc ?_ ?_ _) | (with_reducible refine Below.trans ?_ (Below.mono hb ?_)) | (with_reducible exact hb.size) | omega | (simp <;> omega) | (simp <;> (have s := hb.size; omega)) | (have s0 := hb.size; (try simp at s0); (try simp); omega))

set_option maxHeartbeats 12800000 in
theorem trajR_rej (a b c s x be r t2 tm d c1 c2 p1 p2 : Int) (ao : Option Addr) (m cap n : Nat) (L L4 : List Q) (l4 lm : List Int) (w : World) (hm : LiesO w ao L) (b1 : IntKind.i64.wrap (be * p1) = be * p1) (b2 : IntKind.i64.wrap (be * p2) = be * p2) (b3 : IntKind.i64.wrap (c1 + be * p1) = c1 + be * p1) (b4 : IntKind.i64.wrap (c2 + be * p2) = c2 + be * p2) (b5 : IntKind.i64.wrap (c2 + be * p2 - (c1 + be * p1)) = c2 + be * p2 - (c1 + be * p1))
    (hS : ∀ W : World, LiesO W ao L → Calls Tryz.prog 45 #[.agg #[.int .i64 a, .int .i64 b, .int .i64 c, .slice ao m cap]] W fun e w' => e = .returned (.int .i64 0) ∧ Below W.heap.size W w')
    (hI : ∀ W : World, Calls Tryz.prog 46 #[.int .i64 s] W fun e w' => e = .returned (.bool true) ∧ W = w')
    (hW1 : ∀ W : World, Calls Tryz.prog 38 #[.int .i64 x, .int .i64 0, .int .i64 100] W fun e w' => e = .returned (.bool true) ∧ W = w')
    (hW2 : ∀ W : World, Calls Tryz.prog 38 #[.int .i64 be, .int .i64 0, .int .i64 10] W fun e w' => e = .returned (.bool true) ∧ W = w')
    (hM : ∀ W : World, Calls Tryz.prog 47 #[.int .i64 m, .int .i64 s] W fun e w' => (∃ g k : Nat, e = .returned (.tuple #[.slice (some ⟨g, 0, none⟩) n k, .int .i64 tm]) ∧ LiesI w' g 0 lm ∧ W.heap.size ≤ g) ∧ Below W.heap.size W w')
    (hR : ∀ (W : World) (gm km : Nat), LiesO W ao L → LiesI W gm 0 lm → Calls Tryz.prog 21 #[.agg #[.int .i64 a, .int .i64 b, .int .i64 c, .slice ao m cap], .slice (some ⟨gm, 0, none⟩) n km, .int .i64 x] W fun e w' => RetSE a b c W.heap.size n (L4, l4) e w' ∧ Below W.heap.size W w')
    (hD : ∀ W : World, Calls Tryz.prog 48 #[.int .i64 tm, .int .i64 1073741824] W fun e w' => e = .returned (.tuple #[.int .i64 d, .int .i64 t2]) ∧ W = w')
    (k1 : ∀ (W : World) (g k : Nat), LiesI W g 0 lm → Calls Tryz.prog 49 #[.slice (some ⟨g, 0, none⟩) n k] W fun e w' => e = .returned (.int .i64 c1) ∧ Below W.heap.size W w')
    (k2 : ∀ (W : World) (g k : Nat), LiesI W g 0 l4 → Calls Tryz.prog 49 #[.slice (some ⟨g, 0, none⟩) n k] W fun e w' => e = .returned (.int .i64 c2) ∧ Below W.heap.size W w')
    (q1 : ∀ W : World, LiesO W ao L → Calls Tryz.prog 50 #[.agg #[.int .i64 a, .int .i64 b, .int .i64 c, .slice ao m cap]] W fun e w' => e = .returned (.int .i64 p1) ∧ Below W.heap.size W w')
    (q2 : ∀ (W : World) (g k : Nat), Lies W g 0 L4 → Calls Tryz.prog 50 #[.agg #[.int .i64 a, .int .i64 b, .int .i64 c, .slice (some ⟨g, 0, none⟩) n k]] W fun e w' => e = .returned (.int .i64 p2) ∧ Below W.heap.size W w')
    (hA : ∀ W : World, Calls Tryz.prog 51 #[.int .i64 (c2 + be * p2 - (c1 + be * p1)), .int .i64 d] W fun e w' => e = .returned (.bool false) ∧ W = w')
    (hCp : ∀ W : World, LiesO W ao L → Calls Tryz.prog 10 #[.agg #[.int .i64 a, .int .i64 b, .int .i64 c, .slice ao m cap]] W fun e w' => (∃ g k : Nat, e = .returned (.agg #[.int .i64 a, .int .i64 b, .int .i64 c, .slice (some ⟨g, 0, none⟩) n k]) ∧ LBox w' g L ∧ W.heap.size ≤ g) ∧ Below W.heap.size W w')
    : Calls Tryz.prog 24 #[.agg #[.int .i64 a, .int .i64 b, .int .i64 c, .slice ao m cap], .int .i64 s, .int .i64 x, .int .i64 be] w fun e w' => RetTR a b c w.heap.size n L t2 false e w' ∧ Below w.heap.size w w' := by
  have H0 := Lib.hid hm
  clear hm
  have kc := @Tail.cell_re
  have kc1 : ∀ (W : World) (o : Obj) (d : Nat) (os : Array Obj) (a : Addr), a.block ≤ W.heap.size → (Sort.grow (redrawn (W.alloc o) d) os).cell? a = (W.alloc o).cell? a := fun W o d os a h => Tail.cell_re (W.alloc o) d os a (Nat.lt_of_le_of_lt h (by simp))
  go_enter Tryz.func24, Tryz.ntmps24
  go_wp2_with (fail)
  refine (hS _ (H0.out.later ba2)).mono ?_
  rintro e w1 ⟨rfl, hw1⟩
  have bw1 : Below w.heap.size w w1 := bel2 hw1
  have TF1 := Lib.hid (FW.n2a.later hw1)
  have TR1 := Lib.hid (FW.n2b.later hw1)
  have H1 := Lib.hid (H0.out.later bw1)
  have HB1 := Lib.hid bw1
  clear hw1 bw1 H0
  obtain ⟨tf1_0, tf1_1, tf1_2, tf1_3, tf1_4, tf1_5⟩ := TF1.out
  obtain ⟨tr1_0, tr1_1, tr1_2, tr1_3, tr1_4, tr1_5⟩ := TR1.out
  go_wp2_with (fail)
  refine (hI _).mono ?_
  rintro e wx ⟨rfl, rfl⟩
  go_wp2_with (fail)
  refine (hW1 _).mono ?_
  rintro e wx ⟨rfl, rfl⟩
  go_wp2_with (fail)
  refine (hW2 _).mono ?_
  rintro e wx ⟨rfl, rfl⟩
  go_wp2_with (fail)
  refine (hM _).mono ?_
  rintro e w2 ⟨⟨g1, k1n, rfl, hlm, -⟩, hw2⟩
  clear tf1_0 tf1_1 tf1_2 tf1_3 tf1_4 tf1_5 tr1_0 tr1_1 tr1_2 tr1_3 tr1_4 tr1_5
  have bw2 : Below w1.heap.size w1 w2 := hw2
  have H2 := Lib.hid (H1.out.later bw2)
  have TF2 := Lib.hid (TF1.out.later bw2)
  have TR2 := Lib.hid (TR1.out.later bw2)
  have HB2 := Lib.hid (HB1.out.trans (bw2.mono HB1.out.size))
  have M2 := Lib.hid hlm
  clear hlm
  clear hw2 bw2 H1 TF1 TR1 HB1
  obtain ⟨tf2_0, tf2_1, tf2_2, tf2_3, tf2_4, tf2_5⟩ := TF2.out
  obtain ⟨tr2_0, tr2_1, tr2_2, tr2_3, tr2_4, tr2_5⟩ := TR2.out
  go_wp2_with (fail)
  refine (hR _ _ _ (H2.out) (M2.out)).mono ?_
  rintro e w3 ⟨⟨g4, k4, m4, j4, rfl, hb4, hi4, hg4, -⟩, hw3⟩
  have q4 : w.heap.size + 1 < g4 := by have h1 := TR2.out.lt; omega
  clear tf2_0 tf2_1 tf2_2 tf2_3 tf2_4 tf2_5 tr2_0 tr2_1 tr2_2 tr2_3 tr2_4 tr2_5
  have bw3 : Below w2.heap.size w2 w3 := hw3
  have H3 := Lib.hid (H2.out.later bw3)
  have TF3 := Lib.hid (TF2.out.later bw3)
  have TR3 := Lib.hid (TR2.out.later bw3)
  have M3 := Lib.hid (M2.out.later bw3)
  have HB3 := Lib.hid (HB2.out.trans (bw3.mono HB2.out.size))
  have BL3 := Lib.hid hb4
  clear hb4
  have IL3 := Lib.hid hi4
  clear hi4
  clear hw3 bw3 H2 TF2 TR2 M2 HB2
  obtain ⟨tf3_0, tf3_1, tf3_2, tf3_3, tf3_4, tf3_5⟩ := TF3.out
  obtain ⟨tr3_0, tr3_1, tr3_2, tr3_3, tr3_4, tr3_5⟩ := TR3.out
  go_wp2_with (fail)
  refine (hD _).mono ?_
  rintro e wx ⟨rfl, rfl⟩
  go_wp2_with (fail)
  have Hx := Lib.hid (H3.out.later (ba1 (o := .cells #[.int .i64 a, .int .i64 b, .int .i64 c, .slice (some ⟨g4, 0, none⟩) n k4] 25)))
  have TFx := Lib.hid (TF3.out.later (ba1 (o := .cells #[.int .i64 a, .int .i64 b, .int .i64 c, .slice (some ⟨g4, 0, none⟩) n k4] 25)))
  have TRx := Lib.hid (TR3.out.later (ba1 (o := .cells #[.int .i64 a, .int .i64 b, .int .i64 c, .slice (some ⟨g4, 0, none⟩) n k4] 25)))
  have Mx := Lib.hid (M3.out.later (ba1 (o := .cells #[.int .i64 a, .int .i64 b, .int .i64 c, .slice (some ⟨g4, 0, none⟩) n k4] 25)))
  have BLx := Lib.hid (BL3.out.later (ba1 (o := .cells #[.int .i64 a, .int .i64 b, .int .i64 c, .slice (some ⟨g4, 0, none⟩) n k4] 25)))
  have ILx := Lib.hid (IL3.out.later (ba1 (o := .cells #[.int .i64 a, .int .i64 b, .int .i64 c, .slice (some ⟨g4, 0, none⟩) n k4] 25)))
  have TGx : Hid (FW (w3.alloc (.cells #[.int .i64 a, .int .i64 b, .int .i64 c, .slice (some ⟨g4, 0, none⟩) n k4] 25)) w3.heap.size a b c (.slice (some ⟨g4, 0, none⟩) n k4)) := Lib.hid FW.n1
  have HBx := Lib.hid (HB3.out.trans ((ba1 (o := .cells #[.int .i64 a, .int .i64 b, .int .i64 c, .slice (some ⟨g4, 0, none⟩) n k4] 25)).mono HB3.out.size))
  have q5 : w.heap.size + 1 < w3.heap.size := TR3.out.lt
  clear tf3_0 tf3_1 tf3_2 tf3_3 tf3_4 tf3_5 tr3_0 tr3_1 tr3_2 tr3_3 tr3_4 tr3_5 H3 TF3 TR3 M3 BL3 IL3 HB3
  generalize w3.alloc (.cells #[.int .i64 a, .int .i64 b, .int .i64 c, .slice (some ⟨g4, 0, none⟩) n k4] 25) = W0 at *
  generalize hto : w3.heap.size = to at *
  clear hto
  have H4 := Hx
  have TF4 := TFx
  have TR4 := TRx
  have M4 := Mx
  have BL4 := BLx
  have IL4 := ILx
  have TG4 := TGx
  have HB4 := HBx
  clear TGx HBx Hx TFx TRx Mx BLx ILx
  obtain ⟨tf4_0, tf4_1, tf4_2, tf4_3, tf4_4, tf4_5⟩ := TF4.out
  obtain ⟨tr4_0, tr4_1, tr4_2, tr4_3, tr4_4, tr4_5⟩ := TR4.out
  obtain ⟨tg4_0, tg4_1, tg4_2, tg4_3, tg4_4, tg4_5⟩ := TG4.out
  go_wp2_with (fail)
  refine Tail.region_below (by kernel_rfl) (by kernel_rfl) ?_
  repeat (go_big_quiet_step (first | (with_reducible exact Calls.regrown_of (k1 _ _ _ (liesI_rr M4.out _ _))) | (with_reducible exact Calls.regrown_of (k2 _ _ _ (liesI_rr IL4.out _ _))) | (with_reducible exact Calls.regrown_of (q1 _ (liesO_rr H4.out _ _))) | (with_reducible exact Calls.regrown_of (q2 _ _ _ (lies_rr BL4.out _ _)))))
  refine wpQuiet_nil ?_
  intro w5 hw5
  clear tf4_0 tf4_1 tf4_2 tf4_3 tf4_4 tf4_5 tr4_0 tr4_1 tr4_2 tr4_3 tr4_4 tr4_5 tg4_0 tg4_1 tg4_2 tg4_3 tg4_4 tg4_5
  have H5 := Lib.hid (H4.out.later hw5)
  have TF5 := Lib.hid (TF4.out.later hw5)
  have TR5 := Lib.hid (TR4.out.later hw5)
  have M5 := Lib.hid (M4.out.later hw5)
  have BL5 := Lib.hid (BL4.out.later hw5)
  have IL5 := Lib.hid (IL4.out.later hw5)
  have TG5 := Lib.hid (TG4.out.later hw5)
  have HB5 := Lib.hid (HB4.out.trans (hw5.mono HB4.out.size))
  clear hw5 HB4 H4 TF4 TR4 M4 BL4 IL4 TG4
  obtain ⟨tf5_0, tf5_1, tf5_2, tf5_3, tf5_4, tf5_5⟩ := TF5.out
  obtain ⟨tr5_0, tr5_1, tr5_2, tr5_3, tr5_4, tr5_5⟩ := TR5.out
  obtain ⟨tg5_0, tg5_1, tg5_2, tg5_3, tg5_4, tg5_5⟩ := TG5.out
  go_wp2_with (fail)
  refine (hA _).mono ?_
  rintro e wx ⟨rfl, rfl⟩
  go_wp2_with (fail)
  refine (hCp _ (H5.out)).mono ?_
  rintro e w6 ⟨⟨g5, k5, rfl, hb5, hg5⟩, hw6⟩
  have q6 : w.heap.size + 1 < g5 := by have h1 := TR5.out.lt; omega
  clear tf5_0 tf5_1 tf5_2 tf5_3 tf5_4 tf5_5 tr5_0 tr5_1 tr5_2 tr5_3 tr5_4 tr5_5 tg5_0 tg5_1 tg5_2 tg5_3 tg5_4 tg5_5
  have bw6 : Below w5.heap.size w5 w6 := hw6
  have H6 := Lib.hid (H5.out.later bw6)
  have TF6 := Lib.hid (TF5.out.later bw6)
  have TR6 := Lib.hid (TR5.out.later bw6)
  have M6 := Lib.hid (M5.out.later bw6)
  have BL6 := Lib.hid (BL5.out.later bw6)
  have IL6 := Lib.hid (IL5.out.later bw6)
  have TG6 := Lib.hid (TG5.out.later bw6)
  have HB6 := Lib.hid (HB5.out.trans (bw6.mono HB5.out.size))
  have BK6 := Lib.hid hb5
  clear hb5
  clear hw6 bw6 H5 TF5 TR5 M5 BL5 IL5 TG5 HB5
  obtain ⟨tf6_0, tf6_1, tf6_2, tf6_3, tf6_4, tf6_5⟩ := TF6.out
  obtain ⟨tr6_0, tr6_1, tr6_2, tr6_3, tr6_4, tr6_5⟩ := TR6.out
  have Gs := grown_setCells (w.heap.size + 1) [.int .i64 a, .int .i64 b, .int .i64 c, .slice (some ⟨g5, 0, none⟩) n k5] 0 w6
  go_wp2_with (fail)
  refine bodyPost_ret (v := .tuple #[.agg #[.int .i64 a, .int .i64 b, .int .i64 c, .slice (some ⟨g5, 0, none⟩) n k5], .int .i64 t2, .bool false, .int .i64 0]) (by simp [results, Tryz.results24, go_sem, tr6_0, tr6_1, tr6_2, tr6_3, tr6_4, tr6_5]) rfl ⟨⟨g5, k5, rfl, (BK6.out.grown Gs (by simp; omega)).h, by omega⟩, ?_⟩
  have hb := HB6.out
  repeat (first | (with_reducible exact Below.refl _ _) | (with_reducible refine Below.setCell ?_ ?_ _) | (with_reducible refine Below.drew ?_) | (with_reducible refine Below.alloc ?_ ?_ _) | (with_reducible refine Below.trans ?_ (Below.mono hb ?_)) | (with_reducible exact hb.size) | omega | (simp <;> omega) | (simp <;> (have s := hb.size; omega)) | (have s0 := hb.size; (try simp at s0); (try simp); omega))
theorem lo_liesT {W : World} {bl off : Nat} {L : List Q} (h : LiesO W (some ⟨bl, off, none⟩) L) : Lies W bl off L := by
  rcases h with rfl | ⟨b, o, he, h⟩
  · intro i x hx; simp at hx
  · simp only [Option.some.injEq, Addr.mk.injEq, and_true] at he
    obtain ⟨rfl, rfl⟩ := he
    exact h
theorem tr_S (a b c : Int) (r : Int) (ao : Option Addr) (cap n : Nat) (L : List Q) (ns : List Int) (hr : numsR a b c L ns r) (hL : L.length = n) (hlen : n ≤ 1000000) (W : World) (h : LiesO W ao L) : Calls Tryz.prog 45 #[.agg #[.int .i64 a, .int .i64 b, .int .i64 c, .slice ao n cap]] W fun e w' => e = .returned (.int .i64 r) ∧ Below W.heap.size W w' := by
  have := small6_any a b c r ao cap L ns W h hr (by omega)
  rwa [hL] at this
theorem trajectoryR_ok (a b c s be : Int) (bl off cap n N x : Nat) (L : List Q) (ns : List Int) (w : World) (h : Lies w bl off L) (hr : numsR a b c L ns 0) (hL : L.length = n) (hN : (N : Int) = a * b * c) (hs : IsSeed s) (hx : x ≤ 100) (b0 : 0 ≤ be) (b1 : be ≤ 10) : Calls Tryz.prog 24 #[.agg #[.int .i64 a, .int .i64 b, .int .i64 c, .slice (some ⟨bl, off, none⟩) n cap], .int .i64 s, .int .i64 x, .int .i64 be] w fun e w' => RetTR a b c w.heap.size n (tfl a b c n N L s x be) (adv (adm s (n * 3))) (tac a b c n N L s x be) e w' ∧ Below w.heap.size w w' := by
  have hst := St_moms (s := s) hr hL
  have hst2 := hst.rn x
  have h48 : n ≤ 48 := by have := hst.f.n; have := hst.e; have := hst.f.z.p; omega
  have hn0 : 0 < n := by have := hst.f.n; have := hst.e; obtain ⟨-, -, p3, -⟩ := mul_rng hst.f.z.a1 hst.f.z.a4 hst.f.z.b1 hst.f.z.b4 hst.f.z.c1 hst.f.z.c4; omega
  have hS := tr_S a b c 0 (some ⟨bl, off, none⟩) cap n L ns hr hL (by omega)
  have hI := fun W : World => isSeed6_any s W true (.inl ⟨hs, rfl⟩)
  have hW1 := fun W : World => within6_any (x : Int) 0 100 W true (.inl ⟨by omega, by omega, rfl⟩)
  have hW2 := fun W : World => within6_any be 0 10 W true (.inl ⟨b0, b1, rfl⟩)
  have hM := fun W : World => moms6_any n s W hs hn0 h48
  have hR := fun (W : World) (gm km : Nat) (h1 : LiesO W (some ⟨bl, off, none⟩) L) (h2 : LiesI W gm 0 (moms s (n * 3))) => refRunO_ok a b c bl off cap gm 0 km n x L _ W (lo_liesT h1) h2 hst hn0 h48 hx
  have hD := fun W : World => draw6_any (adm s (n * 3)) 1073741824 W (adm_seed hs _) (by omega) (by omega)
  have k1 := fun (W : World) (g k : Nat) (h : LiesI W g 0 (moms s (n * 3))) => kin6_any g 0 k n _ W h hst.m h48
  have k2 := fun (W : World) (g k : Nat) (h : LiesI W g 0 (rn a b c (L, moms s (n * 3)) x).2) => kin6_any g 0 k n _ W h hst2.m h48
  have q1 : ∀ W : World, LiesO W (some ⟨bl, off, none⟩) L → Calls Tryz.prog 50 #[.agg #[.int .i64 a, .int .i64 b, .int .i64 c, .slice (some ⟨bl, off, none⟩) n cap]] W fun e w' => e = .returned (.int .i64 (pot (pqs a b c L (3 * N)))) ∧ Below W.heap.size W w' := fun W h => by
    have := pot6_ok a b c bl off cap N L ns W (lo_liesT h) hr hN
    rwa [hL] at this
  have q2 : ∀ (W : World) (g k : Nat), Lies W g 0 (rn a b c (L, moms s (n * 3)) x).1 → Calls Tryz.prog 50 #[.agg #[.int .i64 a, .int .i64 b, .int .i64 c, .slice (some ⟨g, 0, none⟩) n k]] W fun e w' => e = .returned (.int .i64 (pot (pqs a b c (rn a b c (L, moms s (n * 3)) x).1 (3 * N)))) ∧ Below W.heap.size W w' := fun W g k h => by
    have := pot6_ok a b c g 0 k N _ _ W h (St_nums hst2).1 hN
    rwa [hst2.e] at this
  obtain ⟨u0, u1⟩ := pot_pqs_rng hr hN
  obtain ⟨v0, v1⟩ := pot_pqs_rng (St_nums hst2).1 hN
  obtain ⟨m0, m1⟩ := beta_rng b0 b1 u0 u1
  obtain ⟨n0, n1⟩ := beta_rng b0 b1 v0 v1
  obtain ⟨x0, x1⟩ := kin_rng (moms s (n * 3))
  obtain ⟨y0, y1⟩ := kin_rng (rn a b c (L, moms s (n * 3)) x).2
  rw [hst.m] at x1
  rw [hst2.m] at y1
  have hA : ∀ q : Bool, tac a b c n N L s x be = q → ∀ W : World, Calls Tryz.prog 51 #[.int .i64 (kin (rn a b c (L, moms s (n * 3)) x).2 + be * pot (pqs a b c (rn a b c (L, moms s (n * 3)) x).1 (3 * N)) - (kin (moms s (n * 3)) + be * pot (pqs a b c L (3 * N)))), .int .i64 (drw (adm s (n * 3)) 1073741824)] W fun e w' => e = .returned (.bool q) ∧ W = w' := fun q hq W => by
    have := accepts_any (kin (rn a b c (L, moms s (n * 3)) x).2 + be * pot (pqs a b c (rn a b c (L, moms s (n * 3)) x).1 (3 * N)) - (kin (moms s (n * 3)) + be * pot (pqs a b c L (3 * N)))) (drw (adm s (n * 3)) 1073741824) W (by unfold drw; omega) (by unfold drw; omega)
    rw [show acc (kin (rn a b c (L, moms s (n * 3)) x).2 + be * pot (pqs a b c (rn a b c (L, moms s (n * 3)) x).1 (3 * N)) - (kin (moms s (n * 3)) + be * pot (pqs a b c L (3 * N)))) (drw (adm s (n * 3)) 1073741824) = q from hq] at this
    exact this
  cases hq : tac a b c n N L s x be with
  | true =>
    have := trajR_acc a b c s x be 0 (adv (adm s (n * 3))) (adm s (n * 3)) (drw (adm s (n * 3)) 1073741824) _ _ _ _ (some ⟨bl, off, none⟩) n cap n L (rn a b c (L, moms s (n * 3)) x).1 (rn a b c (L, moms s (n * 3)) x).2 (moms s (n * 3)) w (.inr ⟨bl, off, rfl, h⟩) (IntWalk.i64_in _ (by omega)) (IntWalk.i64_in _ (by omega)) (IntWalk.i64_in _ (by omega)) (IntWalk.i64_in _ (by omega)) (IntWalk.i64_in _ (by omega)) hS hI hW1 hW2 hM hR hD k1 k2 q1 q2 (hA true hq)
    unfold tfl
    rw [if_pos hq]
    exact this
  | false =>
    have hCp : ∀ W : World, LiesO W (some ⟨bl, off, none⟩) L → Calls Tryz.prog 10 #[.agg #[.int .i64 a, .int .i64 b, .int .i64 c, .slice (some ⟨bl, off, none⟩) n cap]] W fun e w' => (∃ g k : Nat, e = .returned (.agg #[.int .i64 a, .int .i64 b, .int .i64 c, .slice (some ⟨g, 0, none⟩) n k]) ∧ LBox w' g L ∧ W.heap.size ≤ g) ∧ Below W.heap.size W w' := fun W h => by
      have := refCopy_some a b c bl off cap L W (lo_liesT h) (by omega) (by omega)
      rw [hL] at this
      exact this.mono fun e w' ⟨g, k, h1, h2, h3, h4⟩ => ⟨⟨g, k, h1, h2, h3⟩, h4⟩
    have := trajR_rej a b c s x be 0 (adv (adm s (n * 3))) (adm s (n * 3)) (drw (adm s (n * 3)) 1073741824) _ _ _ _ (some ⟨bl, off, none⟩) n cap n L (rn a b c (L, moms s (n * 3)) x).1 (rn a b c (L, moms s (n * 3)) x).2 (moms s (n * 3)) w (.inr ⟨bl, off, rfl, h⟩) (IntWalk.i64_in _ (by omega)) (IntWalk.i64_in _ (by omega)) (IntWalk.i64_in _ (by omega)) (IntWalk.i64_in _ (by omega)) (IntWalk.i64_in _ (by omega)) hS hI hW1 hW2 hM hR hD k1 k2 q1 q2 (hA false hq) hCp
    unfold tfl
    rw [if_neg (by rw [hq]; decide)]
    exact this
theorem trajectoryR_bad (a b c r0 s x be q : Int) (ao : Option Addr) (cap n : Nat) (L : List Q) (ns : List Int) (w : World) (h : LiesO w ao L) (hr : numsR a b c L ns r0) (hL : L.length = n) (hlen : n ≤ 100) (hq : trR r0 s x be q) : Calls Tryz.prog 24 #[.agg #[.int .i64 a, .int .i64 b, .int .i64 c, .slice ao n cap], .int .i64 s, .int .i64 x, .int .i64 be] w fun e w' => e = .returned (.tuple #[.agg #[.int .i64 0, .int .i64 0, .int .i64 0, .slice none 0 0], .int .i64 0, .bool false, .int .i64 q]) ∧ Below w.heap.size w w' := by
  have hS := tr_S a b c r0 ao cap n L ns hr hL (by omega)
  rcases hq with ⟨h0, rfl⟩ | ⟨rfl, hb, rfl⟩
  · exact trajR_field a b c s x be q 0 0 0 0 0 0 0 ao n cap n L [] [] [] w h h0 hS
  · by_cases hs : IsSeed s
    · have hI := fun W : World => isSeed6_any s W true (.inl ⟨hs, rfl⟩)
      by_cases hx : 0 ≤ x ∧ x ≤ 100
      · have hbe : ¬ (0 ≤ be ∧ be ≤ 10) := fun h => hb ⟨hs, hx, h⟩
        exact trajR_beta a b c s x be 0 0 0 0 0 0 0 0 ao n cap n L [] [] [] w h hS hI (fun W : World => within6_any x 0 100 W true (.inl ⟨hx.1, hx.2, rfl⟩)) (fun W : World => within6_any be 0 10 W false (.inr ⟨hbe, rfl⟩))
      · exact trajR_steps a b c s x be 0 0 0 0 0 0 0 0 ao n cap n L [] [] [] w h hS hI (fun W : World => within6_any x 0 100 W false (.inr ⟨hx, rfl⟩))
    · exact trajR_seed a b c s x be 0 0 0 0 0 0 0 0 ao n cap n L [] [] [] w h hS (fun W : World => isSeed6_any s W false (.inr ⟨hs, rfl⟩))
end Go.Proofs.YtilbhcjnkmeecaaGreat

/- PathTrajectories: a trajectory is accepted or not as the document says, for all fields and plans.
Conditions: none. -/
namespace Go.Proofs.YtilbhcjnkmeecaaGreat
set_option linter.unusedVariables false
set_option linter.unusedSimpArgs false
set_option maxRecDepth 1000000
section
open Go.ChangeShapes Go.WideShapes Go.ChangeAt Go.RowKit Go.Joins Go.Deep
variable {H : Type} {enc : TypeId × Value → H} {w : World} {base : Nat} {spare : Nat → Bool} {held : Bool}
theorem cells_plan : Tryz.prog.cellsOf 46 = 3 := by kernel_rfl
theorem one_of_plan {fs : Array Field} (_ : Tryz.prog.underlying 46 = some (.struct fs)) (h : oneCellFields Tryz.prog fs = true) : oneCellFields Tryz.prog fs = true := h
theorem open_plan {r : Reach} {b0 : Nat} {v : Value} {d : DataW H} {p : List MemPlace} (hv : Value.okWide Tryz.prog w r b0 46 v) (h : DataW.Trod enc Tryz.prog w base spare held 46 v d p) : ∃ a b c : Int, v = .agg #[.int .i64 a, .int .i64 b, .int .i64 c] := by
  obtain ⟨cs, rfl, hsz⟩ := okWide_struct Tryz.underlying46 hv
  obtain ⟨l⟩ := cs
  match l, hsz.trans cells_plan with
  | [c0, c1, c2], _ =>
    obtain ⟨fuel, hf⟩ := h
    obtain ⟨xs, n, _, _, _, hlen, hg⟩ := DataW.trod_struct Tryz.underlying46 hf
    have hone := one_of_plan (fs := _) Tryz.underlying46 (by kernel_rfl)
    match xs, hlen with
    | [y0, y1, y2], _ =>
      obtain ⟨o0, k0⟩ := hone_of hone 0 _ rfl
      obtain ⟨o1, k1⟩ := hone_of hone 1 _ rfl
      obtain ⟨o2, k2⟩ := hone_of hone 2 _ rfl
      obtain ⟨a0, e0, _, _⟩ := DataW.trod_int Tryz.underlying3 (show DataW.trod enc Tryz.prog w base spare held n 3 [c0] = some y0 by simpa [Value.cells, o0, cells3] using hg 0 _ rfl)
      obtain ⟨a1, e1, _, _⟩ := DataW.trod_int Tryz.underlying3 (show DataW.trod enc Tryz.prog w base spare held n 3 [c1] = some y1 by simpa [Value.cells, o1, cells3] using hg 1 _ rfl)
      obtain ⟨a2, e2, _, _⟩ := DataW.trod_int Tryz.underlying3 (show DataW.trod enc Tryz.prog w base spare held n 3 [c2] = some y2 by simpa [Value.cells, o2, cells3] using hg 2 _ rfl)
      simp at e0 e1 e2
      subst e0 e1 e2
      exact ⟨a0, a1, a2, rfl⟩
end
open Go.ChangeShapes Go.WideShapes Go.ChangeAt Go.RowKit
open Um Tm Cm Km

set_option maxHeartbeats 6400000 in
theorem traj6_long (a b c s x be t r : Int) (q : Bool) (ao : Option Addr) (m cap n : Nat) (L L5 : List Q) (w : World) (hm : LiesO w ao L)
    (hLg : ∀ W : World, Calls Tryz.prog 22 #[.agg #[.int .i64 a, .int .i64 b, .int .i64 c, .slice ao m cap]] W fun e w' => e = .returned (.bool true) ∧ Below W.heap.size W w')
    : Calls Tryz.prog 6 #[.agg #[.int .i64 a, .int .i64 b, .int .i64 c, .slice ao m cap], .agg #[.int .i64 s, .int .i64 x, .int .i64 be]] w fun e w' => e = .returned (.bool true) ∧ Below w.heap.size w w' := by
  have kn := known6_any
  have H0 := Lib.hid hm
  clear hm
  go_enter Tryz.func6, Tryz.ntmps6
  go_wp2_with (fail)
  refine (hLg _).mono ?_
  rintro e w1 ⟨rfl, hw1⟩
  have bw1 : Below w.heap.size w w1 := bel2 hw1
  have TF1 := Lib.hid (FW.n2a.later hw1)
  have TX1 := Lib.hid (C3.n2b.later hw1)
  have H1 := Lib.hid (H0.out.later bw1)
  have HB1 := Lib.hid bw1
  clear hw1 bw1 H0
  obtain ⟨tf1_0, tf1_1, tf1_2, tf1_3, tf1_4, tf1_5⟩ := TF1.out
  obtain ⟨tx1_0, tx1_1, tx1_2, tx1_3, tx1_4⟩ := TX1.out
  go_wp2_with (fail)
  refine (kn _).mono ?_
  rintro e w2 ⟨rfl, hw2⟩
  clear tf1_0 tf1_1 tf1_2 tf1_3 tf1_4 tf1_5 tx1_0 tx1_1 tx1_2 tx1_3 tx1_4
  have bw2 : Below w1.heap.size w1 w2 := hw2
  have H2 := Lib.hid (H1.out.later bw2)
  have TF2 := Lib.hid (TF1.out.later bw2)
  have TX2 := Lib.hid (TX1.out.later bw2)
  have HB2 := Lib.hid (HB1.out.trans (bw2.mono HB1.out.size))
  clear hw2 bw2 H1 TF1 TX1 HB1
  go_wp2_with (fail)
  go_ret
  exact ⟨rfl, HB2.out⟩

set_option maxHeartbeats 6400000 in
theorem traj6_bad (a b c s x be t r : Int) (q : Bool) (ao : Option Addr) (m cap n : Nat) (L L5 : List Q) (w : World) (hm : LiesO w ao L)
    (hLg : ∀ W : World, Calls Tryz.prog 22 #[.agg #[.int .i64 a, .int .i64 b, .int .i64 c, .slice ao m cap]] W fun e w' => e = .returned (.bool false) ∧ Below W.heap.size W w')
    (hT : ∀ W : World, LiesO W ao L → Calls Tryz.prog 23 #[.agg #[.int .i64 a, .int .i64 b, .int .i64 c, .slice ao m cap], .int .i64 s, .int .i64 x, .int .i64 be] W fun e w' => e = .returned (.tuple #[.agg #[.int .i64 0, .int .i64 0, .int .i64 0, .slice none 0 0], .int .i64 0, .bool false, .int .i64 r]) ∧ Below W.heap.size W w')
    (hR : ∀ W : World, LiesO W ao L → Calls Tryz.prog 24 #[.agg #[.int .i64 a, .int .i64 b, .int .i64 c, .slice ao m cap], .int .i64 s, .int .i64 x, .int .i64 be] W fun e w' => e = .returned (.tuple #[.agg #[.int .i64 0, .int .i64 0, .int .i64 0, .slice none 0 0], .int .i64 0, .bool false, .int .i64 r]) ∧ Below W.heap.size W w')
    (hF : ∀ W : World, Calls Tryz.prog 17 #[.agg #[.int .i64 0, .int .i64 0, .int .i64 0, .slice none 0 0], .agg #[.int .i64 0, .int .i64 0, .int .i64 0, .slice none 0 0]] W fun e w' => e = .returned (.bool true) ∧ Below W.heap.size W w')
    : Calls Tryz.prog 6 #[.agg #[.int .i64 a, .int .i64 b, .int .i64 c, .slice ao m cap], .agg #[.int .i64 s, .int .i64 x, .int .i64 be]] w fun e w' => e = .returned (.bool true) ∧ Below w.heap.size w w' := by
  have kn := known6_any
  have H0 := Lib.hid hm
  clear hm
  go_enter Tryz.func6, Tryz.ntmps6
  go_wp2_with (fail)
  refine (hLg _).mono ?_
  rintro e w1 ⟨rfl, hw1⟩
  have bw1 : Below w.heap.size w w1 := bel2 hw1
  have TF1 := Lib.hid (FW.n2a.later hw1)
  have TX1 := Lib.hid (C3.n2b.later hw1)
  have H1 := Lib.hid (H0.out.later bw1)
  have HB1 := Lib.hid bw1
  clear hw1 bw1 H0
  obtain ⟨tf1_0, tf1_1, tf1_2, tf1_3, tf1_4, tf1_5⟩ := TF1.out
  obtain ⟨tx1_0, tx1_1, tx1_2, tx1_3, tx1_4⟩ := TX1.out
  go_wp2_with (fail)
  refine (hT _ (H1.out)).mono ?_
  rintro e w2 ⟨rfl, hw2⟩
  clear tf1_0 tf1_1 tf1_2 tf1_3 tf1_4 tf1_5 tx1_0 tx1_1 tx1_2 tx1_3 tx1_4
  have bw2 : Below w1.heap.size w1 w2 := hw2
  have H2 := Lib.hid (H1.out.later bw2)
  have TF2 := Lib.hid (TF1.out.later bw2)
  have TX2 := Lib.hid (TX1.out.later bw2)
  have HB2 := Lib.hid (HB1.out.trans (bw2.mono HB1.out.size))
  clear hw2 bw2 H1 TF1 TX1 HB1
  obtain ⟨tf2_0, tf2_1, tf2_2, tf2_3, tf2_4, tf2_5⟩ := TF2.out
  obtain ⟨tx2_0, tx2_1, tx2_2, tx2_3, tx2_4⟩ := TX2.out
  go_wp2_with (fail)
  refine (hR _ (H2.out.later ba1)).mono ?_
  rintro e w3 ⟨rfl, hw3⟩
  clear tf2_0 tf2_1 tf2_2 tf2_3 tf2_4 tf2_5 tx2_0 tx2_1 tx2_2 tx2_3 tx2_4
  have bw3 : Below w2.heap.size w2 w3 := bel1 hw3
  have TA3 := Lib.hid (FW.n1.later hw3)
  have H3 := Lib.hid (H2.out.later bw3)
  have TF3 := Lib.hid (TF2.out.later bw3)
  have TX3 := Lib.hid (TX2.out.later bw3)
  have HB3 := Lib.hid (HB2.out.trans (bw3.mono HB2.out.size))
  clear hw3 bw3 H2 TF2 TX2 HB2
  obtain ⟨ta3_0, ta3_1, ta3_2, ta3_3, ta3_4, ta3_5⟩ := TA3.out
  go_wp2_with (fail)
  refine (hF _).mono ?_
  rintro e w4 ⟨rfl, hw4⟩
  clear ta3_0 ta3_1 ta3_2 ta3_3 ta3_4 ta3_5
  have bw4 : Below w3.heap.size w3 w4 := bel1 hw4
  have TC4 := Lib.hid (FW.n1.later hw4)
  have H4 := Lib.hid (H3.out.later bw4)
  have TF4 := Lib.hid (TF3.out.later bw4)
  have TX4 := Lib.hid (TX3.out.later bw4)
  have TA4 := Lib.hid (TA3.out.later bw4)
  have HB4 := Lib.hid (HB3.out.trans (bw4.mono HB3.out.size))
  clear hw4 bw4 H3 TF3 TX3 TA3 HB3
  go_wp2_with (fail)
  refine (kn _).mono ?_
  rintro e w5 ⟨rfl, hw5⟩
  have bw5 : Below w4.heap.size w4 w5 := hw5
  have H5 := Lib.hid (H4.out.later bw5)
  have TF5 := Lib.hid (TF4.out.later bw5)
  have TX5 := Lib.hid (TX4.out.later bw5)
  have TA5 := Lib.hid (TA4.out.later bw5)
  have TC5 := Lib.hid (TC4.out.later bw5)
  have HB5 := Lib.hid (HB4.out.trans (bw5.mono HB4.out.size))
  clear hw5 bw5 H4 TF4 TX4 TA4 TC4 HB4
  go_wp2_with (fail)
  go_ret
  exact ⟨rfl, HB5.out⟩

set_option maxHeartbeats 6400000 in
theorem traj6_ok (a b c s x be t r : Int) (q : Bool) (ao : Option Addr) (m cap n : Nat) (L L5 : List Q) (w : World) (hm : LiesO w ao L)
    (hLg : ∀ W : World, Calls Tryz.prog 22 #[.agg #[.int .i64 a, .int .i64 b, .int .i64 c, .slice ao m cap]] W fun e w' => e = .returned (.bool false) ∧ Below W.heap.size W w')
    (hT : ∀ W : World, LiesO W ao L → Calls Tryz.prog 23 #[.agg #[.int .i64 a, .int .i64 b, .int .i64 c, .slice ao m cap], .int .i64 s, .int .i64 x, .int .i64 be] W fun e w' => RetT a b c n W.heap.size L5 t q e w' ∧ Below W.heap.size W w')
    (hR : ∀ W : World, LiesO W ao L → Calls Tryz.prog 24 #[.agg #[.int .i64 a, .int .i64 b, .int .i64 c, .slice ao m cap], .int .i64 s, .int .i64 x, .int .i64 be] W fun e w' => RetTR a b c W.heap.size n L5 t q e w' ∧ Below W.heap.size W w')
    (hF : ∀ (W : World) (g k g2 k2 : Nat), Lies W g 0 L5 → Lies W g2 0 L5 → Calls Tryz.prog 17 #[.agg #[.int .i64 a, .int .i64 b, .int .i64 c, .slice (some ⟨g, 0, none⟩) n k], .agg #[.int .i64 a, .int .i64 b, .int .i64 c, .slice (some ⟨g2, 0, none⟩) n k2]] W fun e w' => e = .returned (.bool true) ∧ Below W.heap.size W w')
    : Calls Tryz.prog 6 #[.agg #[.int .i64 a, .int .i64 b, .int .i64 c, .slice ao m cap], .agg #[.int .i64 s, .int .i64 x, .int .i64 be]] w fun e w' => e = .returned (.bool true) ∧ Below w.heap.size w w' := by
  have kn := known6_any
  have H0 := Lib.hid hm
  clear hm
  cases q
  all_goals
    go_enter Tryz.func6, Tryz.ntmps6
    go_wp2_with (fail)
    refine (hLg _).mono ?_
    rintro e w1 ⟨rfl, hw1⟩
    have bw1 : Below w.heap.size w w1 := bel2 hw1
    have TF1 := Lib.hid (FW.n2a.later hw1)
    have TX1 := Lib.hid (C3.n2b.later hw1)
    have H1 := Lib.hid (H0.out.later bw1)
    have HB1 := Lib.hid bw1
    clear hw1 bw1 H0
    obtain ⟨tf1_0, tf1_1, tf1_2, tf1_3, tf1_4, tf1_5⟩ := TF1.out
    obtain ⟨tx1_0, tx1_1, tx1_2, tx1_3, tx1_4⟩ := TX1.out
    go_wp2_with (fail)
    refine (hT _ (H1.out)).mono ?_
    rintro e w2 ⟨⟨g1, k1, rfl, hb1, -⟩, hw2⟩
    clear tf1_0 tf1_1 tf1_2 tf1_3 tf1_4 tf1_5 tx1_0 tx1_1 tx1_2 tx1_3 tx1_4
    have bw2 : Below w1.heap.size w1 w2 := hw2
    have H2 := Lib.hid (H1.out.later bw2)
    have TF2 := Lib.hid (TF1.out.later bw2)
    have TX2 := Lib.hid (TX1.out.later bw2)
    have HB2 := Lib.hid (HB1.out.trans (bw2.mono HB1.out.size))
    have LA2 := Lib.hid hb1.h
    clear hb1
    clear hw2 bw2 H1 TF1 TX1 HB1
    obtain ⟨tf2_0, tf2_1, tf2_2, tf2_3, tf2_4, tf2_5⟩ := TF2.out
    obtain ⟨tx2_0, tx2_1, tx2_2, tx2_3, tx2_4⟩ := TX2.out
    go_wp2_with (fail)
    refine (hR _ (H2.out.later ba1)).mono ?_
    rintro e w3 ⟨⟨g2, k2, rfl, hb2, -⟩, hw3⟩
    clear tf2_0 tf2_1 tf2_2 tf2_3 tf2_4 tf2_5 tx2_0 tx2_1 tx2_2 tx2_3 tx2_4
    have bw3 : Below w2.heap.size w2 w3 := bel1 hw3
    have TA3 := Lib.hid (FW.n1.later hw3)
    have H3 := Lib.hid (H2.out.later bw3)
    have TF3 := Lib.hid (TF2.out.later bw3)
    have TX3 := Lib.hid (TX2.out.later bw3)
    have LA3 := Lib.hid (LA2.out.later bw3)
    have HB3 := Lib.hid (HB2.out.trans (bw3.mono HB2.out.size))
    have LC3 := Lib.hid hb2
    clear hb2
    clear hw3 bw3 H2 TF2 TX2 LA2 HB2
    obtain ⟨ta3_0, ta3_1, ta3_2, ta3_3, ta3_4, ta3_5⟩ := TA3.out
    go_wp2_with (fail)
    refine (hF _ _ _ _ _ (LA3.out.later ba1) (LC3.out.later ba1)).mono ?_
    rintro e w4 ⟨rfl, hw4⟩
    clear ta3_0 ta3_1 ta3_2 ta3_3 ta3_4 ta3_5
    have bw4 : Below w3.heap.size w3 w4 := bel1 hw4
    have TC4 := Lib.hid (FW.n1.later hw4)
    have H4 := Lib.hid (H3.out.later bw4)
    have TF4 := Lib.hid (TF3.out.later bw4)
    have TX4 := Lib.hid (TX3.out.later bw4)
    have LA4 := Lib.hid (LA3.out.later bw4)
    have TA4 := Lib.hid (TA3.out.later bw4)
    have LC4 := Lib.hid (LC3.out.later bw4)
    have HB4 := Lib.hid (HB3.out.trans (bw4.mono HB3.out.size))
    clear hw4 bw4 H3 TF3 TX3 LA3 TA3 LC3 HB3
    go_wp2_with (fail)
    refine (kn _).mono ?_
    rintro e w5 ⟨rfl, hw5⟩
    have bw5 : Below w4.heap.size w4 w5 := hw5
    have H5 := Lib.hid (H4.out.later bw5)
    have TF5 := Lib.hid (TF4.out.later bw5)
    have TX5 := Lib.hid (TX4.out.later bw5)
    have LA5 := Lib.hid (LA4.out.later bw5)
    have TA5 := Lib.hid (TA4.out.later bw5)
    have LC5 := Lib.hid (LC4.out.later bw5)
    have TC5 := Lib.hid (TC4.out.later bw5)
    have HB5 := Lib.hid (HB4.out.trans (bw5.mono HB4.out.size))
    clear hw5 bw5 H4 TF4 TX4 LA4 TA4 LC4 TC4 HB4
    go_wp2_with (fail)
    go_ret
    exact ⟨rfl, HB5.out⟩
theorem lo_liesTr {W : World} {bl off : Nat} {L : List Q} (h : LiesO W (some ⟨bl, off, none⟩) L) : Lies W bl off L := by
  rcases h with rfl | ⟨b, o, he, h⟩
  · intro i x hx; simp at hx
  · simp only [Option.some.injEq, Addr.mk.injEq, and_true] at he
    obtain ⟨rfl, rfl⟩ := he
    exact h
theorem pathTrajectories_walk (a b c : Int) (ao : Option Addr) (L : List Q) (cap : Nat) (s x be : Int) (w : World) (_ : L.length ≤ maxLen) (hm : LiesO w ao L) : Calls Tryz.prog 6 #[.agg #[.int .i64 a, .int .i64 b, .int .i64 c, .slice ao L.length cap], .agg #[.int .i64 s, .int .i64 x, .int .i64 be]] w fun e w' => e = .returned (.bool true) ∧ Below w.heap.size w w' := by
  by_cases hin : L.length ≤ 100
  · have hLg := fun W : World => long_any a b c ao cap L.length false W (.inl ⟨hin, rfl⟩)
    obtain ⟨ns, r0, hr⟩ := numsR_ex a b c L
    obtain ⟨n, hLn⟩ : ∃ n, L.length = n := ⟨_, rfl⟩
    rw [hLn] at hLg hin ⊢
    by_cases h2 : r0 = 0 ∧ IsSeed s ∧ (0 ≤ x ∧ x ≤ 100) ∧ (0 ≤ be ∧ be ≤ 10)
    · obtain ⟨rfl, hs, ⟨hx0, hx1⟩, b0, b1⟩ := h2
      obtain ⟨k, rfl⟩ := Int.eq_ofNat_of_zero_le hx0
      have hst := St_moms (s := s) hr hLn
      have h48 : n ≤ 48 := by have := hst.f.n; have := hst.e; have := hst.f.z.p; omega
      obtain ⟨N, hN⟩ := Int.eq_ofNat_of_zero_le (show 0 ≤ a * b * c by obtain ⟨-, -, p3, -⟩ := mul_rng hst.f.z.a1 hst.f.z.a4 hst.f.z.b1 hst.f.z.b4 hst.f.z.c1 hst.f.z.c4; omega)
      obtain ⟨bl, off, rfl, hm2⟩ := fld_some (numsR_smR hr).1 hm
      have hlen : (tfl a b c n N L s k be).length = n := by
        unfold tfl
        split
        · exact (hst.rn k).e
        · exact hLn
      exact traj6_ok a b c s k be _ 0 _ (some ⟨bl, off, none⟩) n cap n L _ w hm hLg
        (fun W h => trajectory_ok a b c s be bl off cap n N k L ns W (lo_liesTr h) hr hLn hN.symm hs (by omega) b0 b1)
        (fun W h => trajectoryR_ok a b c s be bl off cap n N k L ns W (lo_liesTr h) hr hLn hN.symm hs (by omega) b0 b1)
        (fun W g k g2 k2 h1 h2 => sameF_dec a b c g 0 k g2 0 k2 n _ _ W true h1 h2 hlen hlen (by omega) (decide_eq_true rfl).symm)
    · have hT : ∃ q, trR r0 s x be q := by
        by_cases h0 : r0 = 0
        · exact ⟨1, .inr ⟨h0, fun h => h2 ⟨h0, h⟩, rfl⟩⟩
        · exact ⟨r0, .inl ⟨h0, rfl⟩⟩
      obtain ⟨q, hq⟩ := hT
      exact traj6_bad a b c s x be 0 q false ao n cap n L [] w hm hLg
        (fun W h => trajectory_bad a b c r0 s x be q ao cap n L ns W h hr hLn hin hq)
        (fun W h => trajectoryR_bad a b c r0 s x be q ao cap n L ns W h hr hLn hin hq)
        (fun W => sameF_nil 0 0 0 none none 0 0 W)
  · exact traj6_long a b c s x be 0 0 false ao L.length cap 0 L [] w hm (fun W : World => long_any a b c ao cap L.length true W (.inr ⟨by omega, rfl⟩))

/-! ### The statement of the law PathTrajectories, out of its walk -/
set_option maxRecDepth 100000 in
theorem pathTrajectories_lifted (os : Os) (started : os.Started) (H : Type) (enc : TypeId × Value → H) :
    ReturnsInHanded {} Tryz.checked os 6 .any (Rows.pathTrajectoriesSpec.pre6 enc Tryz.prog Tryz.f6 Rows.pathTrajectoriesRow.domain false) (Rows.pathTrajectoriesSpec.post enc Tryz.prog Tryz.f6 false true false false) := by
  refine returnsInHanded_of_change (C := Tryz.checked) own started (by kernel_rfl) Tryz.func6
    (ChangeSpec.witness6 (enc := enc) (C := Tryz.checked) false ⟨#[], #[.agg #[.int .i64 0, .int .i64 0, .int .i64 0, .slice none 0 0], .agg #[.int .i64 0, .int .i64 0, .int .i64 0]], []⟩ 8 (by kernel_rfl) (by kernel_rfl) (by kernel_rfl) (by kernel_rfl)) ?_
  intro W base args ds gs before hval0 hW hcnd _
  have hval : ∀ (j : Nat) t v, Tryz.f6.params[j]? = some t → args[j]? = some v → Value.okWide Tryz.prog W .any base t v := hval0
  have hW' := hW
  obtain ⟨p, q, hA0, hV, rfl, hfz, hnd⟩ := hW
  have hA : DataW.TrodAll enc Tryz.prog W 0 (fun _ => true) true Tryz.f6.params.toList args.toList ds p := hA0
  rw [Tryz.params6] at hA hval
  obtain ⟨v0, vs0, d0, ds0, p0, q0, hargs, rfl, rfl, h0, r0⟩ := trodAll_cons hA
  obtain ⟨v1, vs1, d1, ds1, p1, q1, rfl, rfl, rfl, h1, r1⟩ := trodAll_cons r0
  obtain ⟨rfl, rfl, rfl⟩ := trodAll_nil r1
  obtain rfl : args = #[v0, v1] := by cases args; simp_all
  obtain ⟨rfl, rfl⟩ := trodVars_none hV
  have k0 := h0
  have lt0 : ∀ x ∈ p0, x.block < W.heap.size := by obtain ⟨m, hm⟩ := k0; exact DataW.trod_lt m _ _ _ hm
  obtain ⟨x0, y0, z0, ao0, L0, cap0, rfl, hl0, hm0⟩ := open_field (hval 0 25 v0 rfl rfl) h0
  have k1 := h1
  have lt1 : ∀ x ∈ p1, x.block < W.heap.size := by obtain ⟨m, hm⟩ := k1; exact DataW.trod_lt m _ _ _ hm
  obtain ⟨x1, y1, z1, rfl⟩ := open_plan (hval 1 46 v1 rfl rfl) h1
  clear hA0 hval0
  refine (pathTrajectories_walk x0 y0 z0 ao0 L0 cap0 x1 y1 z1 W hl0 hm0).mono fun e W' ⟨he, bel⟩ => ?_
  subst he
  exact ⟨_, rfl, _, _, _, [], _, [], hW', trodAll_mk1 (shut_bool Tryz.underlying4 _), (trodAll_cons_mk (Below.trod laidOut (by kernel_rfl) (of_decide_eq_true (by kernel_rfl)) k0 bel lt0) (trodAll_cons_mk (Below.trod laidOut (by kernel_rfl) (of_decide_eq_true (by kernel_rfl)) k1 bel lt1) trodAll_mk0)), rfl, bel.frame _, fun h => by cases h⟩

theorem pathTrajectories_jf9 : (Rows.pathTrajectoriesRow.inPlace == Tryz.prog.inPlace 6) = true := by kernel_rfl
theorem pathTrajectories_jf10 : (Rows.pathTrajectoriesRow.unfollowed == Tryz.prog.unfollowed 6) = true := by kernel_rfl
theorem pathTrajectories_jf11 : (Rows.pathTrajectoriesRow.recurses == Tryz.prog.recurses 6) = true := by kernel_rfl
theorem pathTrajectories_jf12 : (Rows.pathTrajectoriesRow.named == Tryz.prog.varsNamed 6) = true := by kernel_rfl
theorem pathTrajectories_facts : joinedFacts Tryz.prog 6 Tryz.f6 Rows.pathTrajectoriesSpec Rows.pathTrajectoriesRow = true := by
  unfold joinedFacts
  exact (band (band (band (band (band (band (band (band (band (band (band (band (band (band (band (band (band (band (band (band (band (band (band (band (band (band (band (band (band (band (band (by kernel_rfl) jf1) jf2) (by kernel_rfl)) (by kernel_rfl)) (by kernel_rfl)) jf6) (by kernel_rfl)) jf8) pathTrajectories_jf9) pathTrajectories_jf10) pathTrajectories_jf11) pathTrajectories_jf12) (by kernel_rfl)) (by kernel_rfl)) (by kernel_rfl)) (by kernel_rfl)) (by kernel_rfl)) (by kernel_rfl)) (by kernel_rfl)) (by kernel_rfl)) (by kernel_rfl)) (by kernel_rfl)) (by kernel_rfl)) jf24) jf25) jf26) jf27) (by kernel_rfl)) (by kernel_rfl)) (by kernel_rfl)) (by kernel_rfl))

theorem pathTrajectories_over : Rows.pathTrajectoriesRow.holds Tryz.pinned (OpenSpec.ofChange Rows.pathTrajectoriesSpec) :=
  OpenClaim.holds_of_wide 6 Tryz.f6 rfl rfl rfl rfl rfl rfl rfl ⟨rfl, rfl, rfl, rfl, rfl⟩ rfl rfl rfl rfl rfl (by kernel_rfl) Tryz.func6 pathTrajectories_facts
    (of_decide_eq_true (by kernel_rfl)) (by unfold Func.isWrapper; first | (rw [if_pos (by decide +kernel)]; kernel_rfl) | (rw [if_neg (by decide +kernel)]; exact ⟨rfl, rfl⟩))
    (fun os started H enc _ => pathTrajectories_lifted os started H enc)

theorem pathTrajectories_holds : Rows.PathTrajectoriesSaid := pathTrajectories_over
#print axioms pathTrajectories_holds

end Go.Proofs.YtilbhcjnkmeecaaGreat
