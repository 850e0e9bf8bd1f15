/- TopLoops: values of sums of loops add and multiply as the sums do, and the square of a loop has the square of its trace, for all fields and sums.
Conditions: none. -/
import Derived.Test.YtjidbajcnomceaaLxC
import Derived.Test.YtjidbajcnomceaaLoopH
import Derived.Test.YtjidbajcnomceaaLooC
import Derived.Test.YtjidbajcnomceaaOpen4
import Derived.Test.YtjidbajcnomceaaWlkA
import Derived.Test.YtjidbajcnomceaaJFacts
import Derived.Deep.RegionHeld3
namespace Go.Proofs.Ytjidbajcnomceaa
set_option linter.unusedVariables false
set_option linter.unusedSimpArgs false
set_option maxRecDepth 1000000
open Go.ChangeShapes Go.WideShapes Go.ChangeAt Go.RowKit
open Um Tm Lm

def Fits (x y : Int) : Prop := 1 ≤ y ∧ y ≤ 1073741824 ∧ -1073741824 ≤ x ∧ x ≤ 1073741824
set_option maxHeartbeats 800000 in
theorem fits_yes (x y : Int) (w : World) (h : Fits x y) : Calls Try.prog 33 #[.agg #[.int .i64 x, .int .i64 y]] w fun e w' => e = .returned (.bool true) ∧ Below w.heap.size w w' := by
  obtain ⟨h1, h2, h3, h4⟩ := h
  go_enter Try.func33, Try.ntmps33
  go_wp2
  go_ret
  exact ⟨rfl, by repeat (first | (with_reducible exact Below.refl _ _) | (with_reducible refine Below.setCell ?_ ?_ _) | (with_reducible refine Below.drew ?_) | (with_reducible refine Below.alloc ?_ ?_ _) | omega | (simp <;> omega))⟩
set_option maxHeartbeats 1600000 in
theorem fits_no (x y : Int) (w : World) (h : ¬ Fits x y) : Calls Try.prog 33 #[.agg #[.int .i64 x, .int .i64 y]] w fun e w' => e = .returned (.bool false) ∧ Below w.heap.size w w' := by
  have h' : ¬ 1 ≤ y ∨ (1 ≤ y ∧ ¬ y ≤ 1073741824) ∨ (1 ≤ y ∧ y ≤ 1073741824 ∧ ¬ -1073741824 ≤ x) ∨ (1 ≤ y ∧ y ≤ 1073741824 ∧ -1073741824 ≤ x ∧ ¬ x ≤ 1073741824) := by unfold Fits at h; omega
  clear h
  rcases h' with h1 | ⟨h1, h2⟩ | ⟨h1, h2, h3⟩ | ⟨h1, h2, h3, h4⟩
  all_goals
    go_enter Try.func33, Try.ntmps33
    go_wp2
    go_ret
    first | exact ⟨rfl, by repeat (first | (with_reducible exact Below.refl _ _) | (with_reducible refine Below.setCell ?_ ?_ _) | (with_reducible refine Below.drew ?_) | (with_reducible refine Below.alloc ?_ ?_ _) | omega | (simp <;> omega))⟩ | exact ⟨by simp [h4], by repeat (first | (with_reducible exact Below.refl _ _) | (with_reducible refine Below.setCell ?_ ?_ _) | (with_reducible refine Below.drew ?_) | (with_reducible refine Below.alloc ?_ ?_ _) | omega | (simp <;> omega))⟩
theorem sqK (a : Option Addr) (W : World) (h : LiesOI W a [1, 2, -1, -2]) : Calls Try.prog 26 #[.slice a 4 4] W fun e w' => (∃ (a1 : Option Addr) (c1 : Nat), e = .returned (.tuple #[.slice a1 2 c1, .int .i64 0])) ∧ Below W.heap.size W w' := by
  obtain ⟨q, hq, hl, hv⟩ := sq_two
  refine (Square_ok a 4 [1, 2, -1, -2] W h (by decide)).mono ?_
  rintro e w' ⟨hr, hb⟩
  rcases hr with ⟨-, a1, c1, es, rfl, hT, hm⟩ | ⟨h1, -⟩
  · rw [hq] at hm
    obtain ⟨b1, k1, b2, k2, rfl⟩ := two_es hm
    exact ⟨⟨a1, c1, rfl⟩, hb⟩
  · rw [hq] at h1
    exact absurd hv h1
theorem lit4 {w : World} {o : Obj} {T : TypeId} : LiesOI ((w.alloc o).alloc (.cells #[.int .i64 1, .int .i64 2, .int .i64 (-1), .int .i64 (-2)] T)) (some ⟨w.heap.size + 1, 0, none⟩) [1, 2, -1, -2] := .inr ⟨w.heap.size + 1, 0, rfl, fun i x hx => by
  match i, hx with
  | 0, hx => simp at hx; subst hx; simp [go_sem]
  | 1, hx => simp at hx; subst hx; simp [go_sem]
  | 2, hx => simp at hx; subst hx; simp [go_sem]
  | 3, hx => simp at hx; subst hx; simp [go_sem]
  | n + 4, hx => simp at hx⟩
theorem liesOI_rt {W : World} {ao : Option Addr} {l : List Int} (h : LiesOI W ao l) (d : Nat) (os : Array Obj) : LiesOI (Sort.grow (redrawn W d) os) ao l := by
  rcases h with h | ⟨b, o, h, hl⟩
  · exact .inl h
  · exact .inr ⟨b, o, h, fun i x hx => by
      have f := hl i x hx
      exact (Tail.cell_re W d os _ (World.block_lt_of_cell? W _ f)).trans f⟩
theorem held_belowT {W W1 : World} {b i : Nat} {v : Value} (h : Below W.heap.size W W1) (hc : W.cell? ⟨b, i, none⟩ = some v) : W1.cell? ⟨b, i, none⟩ = some v := (h.cell (World.block_lt_of_cell? W _ hc)).trans hc
theorem belD {w w1 : World} (h : Below w.drew.heap.size w.drew w1) : Below w.heap.size w w1 := ⟨h.os, h.tape, h.output, h.size, h.block⟩
theorem belA {w w1 : World} {o : Obj} (h : Below (w.alloc o).drew.heap.size (w.alloc o).drew w1) : Below w.heap.size w w1 := bel1 (belD h)
theorem belS {w w1 : World} {u v : Value} (h : Below w.heap.size w w1) : Below w.heap.size w ((w1.setCell ⟨w.heap.size, 0, none⟩ u).setCell ⟨w.heap.size, 1, none⟩ v) := Below.setCell (Below.setCell h (Nat.le_refl _) _) (Nat.le_refl _) _
/-- what a path of a sum leads to: its trace, and its square's value -/
structure LoopF (a b c : Int) (fo : Option Addr) (cap : Nat) (L : List Q) (p : List Int) : Prop where
  f : ∃ t1 t2 rq q1 q2 : Int, ∃ M : List Trm, TrN a b c 0 fo cap L p t1 t2 0 ∧ (∀ (W : World) (ao : Option Addr) (pc : Nat), LiesOI W ao p → Calls Try.prog 26 #[.slice ao p.length pc] W fun e w' => Ans M rq e w' ∧ Below W.heap.size W w') ∧
    (rq ≠ 0 ∨ (rq = 0 ∧ VaN a b c 0 fo cap L M q1 q2 0 ∧ (¬ Fits t1 t2 ∨ (Fits t1 t2 ∧ IntKind.i64.wrap (t1 * t1) = t1 * t1 ∧ IntKind.i64.wrap (t2 * t2) = t2 * t2 ∧ ∀ W : World, Calls Try.prog 35 #[.int .i64 (t1 * t1), .int .i64 (t2 * t2)] W fun e w' => e = .returned (.agg #[.int .i64 q1, .int .i64 q2]) ∧ Below W.heap.size W w'))))
set_option maxHeartbeats 6400000 in
theorem tlo_long (a b c x1 x2 e y1 y2 g : Int) (fo lo mo : Option Addr) (cap lc mc : Nat) (L : List Q) (l m : List E) (w : World) (hm : LiesO w fo L) (hla : Trs w lo l) (hlb : Trs w mo m)
    (hLg : ∀ W : World, Calls Try.prog 30 #[.agg #[.int .i64 a, .int .i64 b, .int .i64 c, .slice fo L.length cap]] W fun e w' => e = .returned (.bool true) ∧ Below W.heap.size W w')
    : Calls Try.prog 9 #[.agg #[.int .i64 a, .int .i64 b, .int .i64 c, .slice fo L.length cap], .slice lo l.length lc, .slice mo m.length mc] w fun e w' => e = .returned (.bool true) ∧ Below w.heap.size w w' := by
  have sq := sqK
  have H0 := Lib.hid hm
  have HLA0 := Lib.hid hla
  have HLB0 := Lib.hid hlb
  clear hm hla hlb
  go_enter Try.func9, Try.ntmps9
  go_wp2_with (fail)
  refine (sq _ _ lit4).mono ?_
  rintro e w1 ⟨⟨a1, c1, rfl⟩, hw1⟩
  have bw1 : Below w.heap.size w w1 := bel2 hw1
  have TF1 := Lib.hid (FW.n2a.later hw1)
  have H1 := Lib.hid (H0.out.later bw1)
  have HLA1 := Lib.hid (HLA0.out.later bw1)
  have HLB1 := Lib.hid (HLB0.out.later bw1)
  have HB1 := Lib.hid bw1
  clear hw1 bw1 H0 HLA0 HLB0
  obtain ⟨tf1_0, tf1_1, tf1_2, tf1_3, tf1_4, tf1_5⟩ := TF1.out
  clear sq
  go_wp2_with (fail)
  refine (hLg _).mono ?_
  rintro e w2 ⟨rfl, hw2⟩
  clear tf1_0 tf1_1 tf1_2 tf1_3 tf1_4 tf1_5
  have bw2 : Below w1.heap.size w1 w2 := hw2
  have H2 := Lib.hid (H1.out.later bw2)
  have HLA2 := Lib.hid (HLA1.out.later bw2)
  have HLB2 := Lib.hid (HLB1.out.later bw2)
  have TF2 := Lib.hid (TF1.out.later bw2)
  have HB2 := Lib.hid (HB1.out.trans (bw2.mono HB1.out.size))
  clear hw2 bw2 H1 HLA1 HLB1 TF1 HB1
  go_wp2_with (fail)
  go_ret
  exact ⟨rfl, HB2.out⟩

set_option maxHeartbeats 6400000 in
theorem tlo_ma (a b c x1 x2 e y1 y2 g : Int) (fo lo mo : Option Addr) (cap lc mc : Nat) (L : List Q) (l m : List E) (w : World) (hm : LiesO w fo L) (hla : Trs w lo l) (hlb : Trs w mo m)
    (hLg : ∀ W : World, Calls Try.prog 30 #[.agg #[.int .i64 a, .int .i64 b, .int .i64 c, .slice fo L.length cap]] W fun e w' => e = .returned (.bool false) ∧ Below W.heap.size W w')
    (hMa : ∀ W : World, Trs W lo l → Calls Try.prog 15 #[.slice lo l.length lc] W fun e w' => e = .returned (.bool true) ∧ Below W.heap.size W w')
    : Calls Try.prog 9 #[.agg #[.int .i64 a, .int .i64 b, .int .i64 c, .slice fo L.length cap], .slice lo l.length lc, .slice mo m.length mc] w fun e w' => e = .returned (.bool true) ∧ Below w.heap.size w w' := by
  have sq := sqK
  have H0 := Lib.hid hm
  have HLA0 := Lib.hid hla
  have HLB0 := Lib.hid hlb
  clear hm hla hlb
  go_enter Try.func9, Try.ntmps9
  go_wp2_with (fail)
  refine (sq _ _ lit4).mono ?_
  rintro e w1 ⟨⟨a1, c1, rfl⟩, hw1⟩
  have bw1 : Below w.heap.size w w1 := bel2 hw1
  have TF1 := Lib.hid (FW.n2a.later hw1)
  have H1 := Lib.hid (H0.out.later bw1)
  have HLA1 := Lib.hid (HLA0.out.later bw1)
  have HLB1 := Lib.hid (HLB0.out.later bw1)
  have HB1 := Lib.hid bw1
  clear hw1 bw1 H0 HLA0 HLB0
  obtain ⟨tf1_0, tf1_1, tf1_2, tf1_3, tf1_4, tf1_5⟩ := TF1.out
  clear sq
  go_wp2_with (fail)
  refine (hLg _).mono ?_
  rintro e w2 ⟨rfl, hw2⟩
  clear tf1_0 tf1_1 tf1_2 tf1_3 tf1_4 tf1_5
  have bw2 : Below w1.heap.size w1 w2 := hw2
  have H2 := Lib.hid (H1.out.later bw2)
  have HLA2 := Lib.hid (HLA1.out.later bw2)
  have HLB2 := Lib.hid (HLB1.out.later bw2)
  have TF2 := Lib.hid (TF1.out.later bw2)
  have HB2 := Lib.hid (HB1.out.trans (bw2.mono HB1.out.size))
  clear hw2 bw2 H1 HLA1 HLB1 TF1 HB1
  go_wp2_with (fail)
  refine (hMa _ (HLA2.out)).mono ?_
  rintro e w3 ⟨rfl, hw3⟩
  have bw3 : Below w2.heap.size w2 w3 := hw3
  have H3 := Lib.hid (H2.out.later bw3)
  have HLA3 := Lib.hid (HLA2.out.later bw3)
  have HLB3 := Lib.hid (HLB2.out.later bw3)
  have TF3 := Lib.hid (TF2.out.later bw3)
  have HB3 := Lib.hid (HB2.out.trans (bw3.mono HB2.out.size))
  clear hw3 bw3 H2 HLA2 HLB2 TF2 HB2
  go_wp2_with (fail)
  go_ret
  exact ⟨rfl, HB3.out⟩

set_option maxHeartbeats 6400000 in
theorem tlo_mb (a b c x1 x2 e y1 y2 g : Int) (fo lo mo : Option Addr) (cap lc mc : Nat) (L : List Q) (l m : List E) (w : World) (hm : LiesO w fo L) (hla : Trs w lo l) (hlb : Trs w mo m)
    (hLg : ∀ W : World, Calls Try.prog 30 #[.agg #[.int .i64 a, .int .i64 b, .int .i64 c, .slice fo L.length cap]] W fun e w' => e = .returned (.bool false) ∧ Below W.heap.size W w')
    (hMa : ∀ W : World, Trs W lo l → Calls Try.prog 15 #[.slice lo l.length lc] W fun e w' => e = .returned (.bool false) ∧ Below W.heap.size W w')
    (hMb : ∀ W : World, Trs W mo m → Calls Try.prog 15 #[.slice mo m.length mc] W fun e w' => e = .returned (.bool true) ∧ Below W.heap.size W w')
    : Calls Try.prog 9 #[.agg #[.int .i64 a, .int .i64 b, .int .i64 c, .slice fo L.length cap], .slice lo l.length lc, .slice mo m.length mc] w fun e w' => e = .returned (.bool true) ∧ Below w.heap.size w w' := by
  have sq := sqK
  have H0 := Lib.hid hm
  have HLA0 := Lib.hid hla
  have HLB0 := Lib.hid hlb
  clear hm hla hlb
  go_enter Try.func9, Try.ntmps9
  go_wp2_with (fail)
  refine (sq _ _ lit4).mono ?_
  rintro e w1 ⟨⟨a1, c1, rfl⟩, hw1⟩
  have bw1 : Below w.heap.size w w1 := bel2 hw1
  have TF1 := Lib.hid (FW.n2a.later hw1)
  have H1 := Lib.hid (H0.out.later bw1)
  have HLA1 := Lib.hid (HLA0.out.later bw1)
  have HLB1 := Lib.hid (HLB0.out.later bw1)
  have HB1 := Lib.hid bw1
  clear hw1 bw1 H0 HLA0 HLB0
  obtain ⟨tf1_0, tf1_1, tf1_2, tf1_3, tf1_4, tf1_5⟩ := TF1.out
  clear sq
  go_wp2_with (fail)
  refine (hLg _).mono ?_
  rintro e w2 ⟨rfl, hw2⟩
  clear tf1_0 tf1_1 tf1_2 tf1_3 tf1_4 tf1_5
  have bw2 : Below w1.heap.size w1 w2 := hw2
  have H2 := Lib.hid (H1.out.later bw2)
  have HLA2 := Lib.hid (HLA1.out.later bw2)
  have HLB2 := Lib.hid (HLB1.out.later bw2)
  have TF2 := Lib.hid (TF1.out.later bw2)
  have HB2 := Lib.hid (HB1.out.trans (bw2.mono HB1.out.size))
  clear hw2 bw2 H1 HLA1 HLB1 TF1 HB1
  go_wp2_with (fail)
  refine (hMa _ (HLA2.out)).mono ?_
  rintro e w3 ⟨rfl, hw3⟩
  have bw3 : Below w2.heap.size w2 w3 := hw3
  have H3 := Lib.hid (H2.out.later bw3)
  have HLA3 := Lib.hid (HLA2.out.later bw3)
  have HLB3 := Lib.hid (HLB2.out.later bw3)
  have TF3 := Lib.hid (TF2.out.later bw3)
  have HB3 := Lib.hid (HB2.out.trans (bw3.mono HB2.out.size))
  clear hw3 bw3 H2 HLA2 HLB2 TF2 HB2
  go_wp2_with (fail)
  refine (hMb _ (HLB3.out)).mono ?_
  rintro e w4 ⟨rfl, hw4⟩
  have bw4 : Below w3.heap.size w3 w4 := hw4
  have H4 := Lib.hid (H3.out.later bw4)
  have HLA4 := Lib.hid (HLA3.out.later bw4)
  have HLB4 := Lib.hid (HLB3.out.later bw4)
  have TF4 := Lib.hid (TF3.out.later bw4)
  have HB4 := Lib.hid (HB3.out.trans (bw4.mono HB3.out.size))
  clear hw4 bw4 H3 HLA3 HLB3 TF3 HB3
  go_wp2_with (fail)
  go_ret
  exact ⟨rfl, HB4.out⟩

set_option maxHeartbeats 6400000 in
theorem tlo_e (a b c x1 x2 e y1 y2 g : Int) (fo lo mo : Option Addr) (cap lc mc : Nat) (L : List Q) (l m : List E) (w : World) (hm : LiesO w fo L) (hla : Trs w lo l) (hlb : Trs w mo m)
    (hLg : ∀ W : World, Calls Try.prog 30 #[.agg #[.int .i64 a, .int .i64 b, .int .i64 c, .slice fo L.length cap]] W fun e w' => e = .returned (.bool false) ∧ Below W.heap.size W w')
    (hMa : ∀ W : World, Trs W lo l → Calls Try.prog 15 #[.slice lo l.length lc] W fun e w' => e = .returned (.bool false) ∧ Below W.heap.size W w')
    (hMb : ∀ W : World, Trs W mo m → Calls Try.prog 15 #[.slice mo m.length mc] W fun e w' => e = .returned (.bool false) ∧ Below W.heap.size W w')
    (cX : VaN a b c 0 fo cap L (tm l) x1 x2 e)
    (cY : VaN a b c 0 fo cap L (tm m) y1 y2 g)
    (e1 : e ≠ 0)
    : Calls Try.prog 9 #[.agg #[.int .i64 a, .int .i64 b, .int .i64 c, .slice fo L.length cap], .slice lo l.length lc, .slice mo m.length mc] w fun e w' => e = .returned (.bool true) ∧ Below w.heap.size w w' := by
  have sq := sqK
  have H0 := Lib.hid hm
  have HLA0 := Lib.hid hla
  have HLB0 := Lib.hid hlb
  clear hm hla hlb
  have k1 := cX.ex
  have k2 := cY.ex
  clear cX cY
  have q1 : (e != 0) = true := by simpa using e1
  clear e1
  go_enter Try.func9, Try.ntmps9
  go_wp2_with (fail)
  refine (sq _ _ lit4).mono ?_
  rintro e w1 ⟨⟨a1, c1, rfl⟩, hw1⟩
  have bw1 : Below w.heap.size w w1 := bel2 hw1
  have TF1 := Lib.hid (FW.n2a.later hw1)
  have H1 := Lib.hid (H0.out.later bw1)
  have HLA1 := Lib.hid (HLA0.out.later bw1)
  have HLB1 := Lib.hid (HLB0.out.later bw1)
  have HB1 := Lib.hid bw1
  clear hw1 bw1 H0 HLA0 HLB0
  obtain ⟨tf1_0, tf1_1, tf1_2, tf1_3, tf1_4, tf1_5⟩ := TF1.out
  clear sq
  go_wp2_with (fail)
  refine (hLg _).mono ?_
  rintro e w2 ⟨rfl, hw2⟩
  clear tf1_0 tf1_1 tf1_2 tf1_3 tf1_4 tf1_5
  have bw2 : Below w1.heap.size w1 w2 := hw2
  have H2 := Lib.hid (H1.out.later bw2)
  have HLA2 := Lib.hid (HLA1.out.later bw2)
  have HLB2 := Lib.hid (HLB1.out.later bw2)
  have TF2 := Lib.hid (TF1.out.later bw2)
  have HB2 := Lib.hid (HB1.out.trans (bw2.mono HB1.out.size))
  clear hw2 bw2 H1 HLA1 HLB1 TF1 HB1
  go_wp2_with (fail)
  refine (hMa _ (HLA2.out)).mono ?_
  rintro e w3 ⟨rfl, hw3⟩
  have bw3 : Below w2.heap.size w2 w3 := hw3
  have H3 := Lib.hid (H2.out.later bw3)
  have HLA3 := Lib.hid (HLA2.out.later bw3)
  have HLB3 := Lib.hid (HLB2.out.later bw3)
  have TF3 := Lib.hid (TF2.out.later bw3)
  have HB3 := Lib.hid (HB2.out.trans (bw3.mono HB2.out.size))
  clear hw3 bw3 H2 HLA2 HLB2 TF2 HB2
  go_wp2_with (fail)
  refine (hMb _ (HLB3.out)).mono ?_
  rintro e w4 ⟨rfl, hw4⟩
  have bw4 : Below w3.heap.size w3 w4 := hw4
  have H4 := Lib.hid (H3.out.later bw4)
  have HLA4 := Lib.hid (HLA3.out.later bw4)
  have HLB4 := Lib.hid (HLB3.out.later bw4)
  have TF4 := Lib.hid (TF3.out.later bw4)
  have HB4 := Lib.hid (HB3.out.trans (bw4.mono HB3.out.size))
  clear hw4 bw4 H3 HLA3 HLB3 TF3 HB3
  obtain ⟨tf4_0, tf4_1, tf4_2, tf4_3, tf4_4, tf4_5⟩ := TF4.out
  go_wp2_with (fail)
  refine (k1 _ _ _ _ rfl (H4.out) (HLA4.out)).mono ?_
  rintro e w5 ⟨rfl, hw5⟩
  clear tf4_0 tf4_1 tf4_2 tf4_3 tf4_4 tf4_5
  have bw5 : Below w4.heap.size w4 w5 := hw5
  have H5 := Lib.hid (H4.out.later bw5)
  have HLA5 := Lib.hid (HLA4.out.later bw5)
  have HLB5 := Lib.hid (HLB4.out.later bw5)
  have TF5 := Lib.hid (TF4.out.later bw5)
  have HB5 := Lib.hid (HB4.out.trans (bw5.mono HB4.out.size))
  clear hw5 bw5 H4 HLA4 HLB4 TF4 HB4
  obtain ⟨tf5_0, tf5_1, tf5_2, tf5_3, tf5_4, tf5_5⟩ := TF5.out
  go_wp2_with (fail)
  refine (k2 _ _ _ _ rfl (H5.out.later ba1) (HLB5.out.later ba1)).mono ?_
  rintro e w6 ⟨rfl, hw6⟩
  clear tf5_0 tf5_1 tf5_2 tf5_3 tf5_4 tf5_5
  have bw6 : Below w5.heap.size w5 w6 := bel1 hw6
  have TX6 := Lib.hid (C2.n1.later hw6)
  have H6 := Lib.hid (H5.out.later bw6)
  have HLA6 := Lib.hid (HLA5.out.later bw6)
  have HLB6 := Lib.hid (HLB5.out.later bw6)
  have TF6 := Lib.hid (TF5.out.later bw6)
  have HB6 := Lib.hid (HB5.out.trans (bw6.mono HB5.out.size))
  clear hw6 bw6 H5 HLA5 HLB5 TF5 HB5
  obtain ⟨tx6_0, tx6_1, tx6_2, tx6_3⟩ := TX6.out
  have HBz := HB6.out
  go_wp2_with (fail)
  go_ret
  exact ⟨rfl, by repeat (first | (with_reducible exact Below.refl _ _) | (with_reducible refine Below.setCell ?_ ?_ _) | (with_reducible refine Below.drew ?_) | (with_reducible refine Below.alloc ?_ ?_ _) | (with_reducible refine Below.trans ?_ (Below.mono HBz ?_)) | (with_reducible exact HBz.size) | omega | (simp <;> omega) | (simp <;> (have s := HBz.size; omega)) | (have s0 := HBz.size; (try simp at s0); (try simp); omega))⟩

set_option maxHeartbeats 6400000 in
theorem tlo_g (a b c x1 x2 e y1 y2 g : Int) (fo lo mo : Option Addr) (cap lc mc : Nat) (L : List Q) (l m : List E) (w : World) (hm : LiesO w fo L) (hla : Trs w lo l) (hlb : Trs w mo m)
    (hLg : ∀ W : World, Calls Try.prog 30 #[.agg #[.int .i64 a, .int .i64 b, .int .i64 c, .slice fo L.length cap]] W fun e w' => e = .returned (.bool false) ∧ Below W.heap.size W w')
    (hMa : ∀ W : World, Trs W lo l → Calls Try.prog 15 #[.slice lo l.length lc] W fun e w' => e = .returned (.bool false) ∧ Below W.heap.size W w')
    (hMb : ∀ W : World, Trs W mo m → Calls Try.prog 15 #[.slice mo m.length mc] W fun e w' => e = .returned (.bool false) ∧ Below W.heap.size W w')
    (cX : VaN a b c 0 fo cap L (tm l) x1 x2 e)
    (cY : VaN a b c 0 fo cap L (tm m) y1 y2 g)
    (e1 : e = 0)
    (e2 : g ≠ 0)
    : Calls Try.prog 9 #[.agg #[.int .i64 a, .int .i64 b, .int .i64 c, .slice fo L.length cap], .slice lo l.length lc, .slice mo m.length mc] w fun e w' => e = .returned (.bool true) ∧ Below w.heap.size w w' := by
  have sq := sqK
  have H0 := Lib.hid hm
  have HLA0 := Lib.hid hla
  have HLB0 := Lib.hid hlb
  clear hm hla hlb
  have k1 := cX.ex
  have k2 := cY.ex
  clear cX cY
  subst e1
  have q1 : (g != 0) = true := by simpa using e2
  clear e2
  go_enter Try.func9, Try.ntmps9
  go_wp2_with (fail)
  refine (sq _ _ lit4).mono ?_
  rintro e w1 ⟨⟨a1, c1, rfl⟩, hw1⟩
  have bw1 : Below w.heap.size w w1 := bel2 hw1
  have TF1 := Lib.hid (FW.n2a.later hw1)
  have H1 := Lib.hid (H0.out.later bw1)
  have HLA1 := Lib.hid (HLA0.out.later bw1)
  have HLB1 := Lib.hid (HLB0.out.later bw1)
  have HB1 := Lib.hid bw1
  clear hw1 bw1 H0 HLA0 HLB0
  obtain ⟨tf1_0, tf1_1, tf1_2, tf1_3, tf1_4, tf1_5⟩ := TF1.out
  clear sq
  go_wp2_with (fail)
  refine (hLg _).mono ?_
  rintro e w2 ⟨rfl, hw2⟩
  clear tf1_0 tf1_1 tf1_2 tf1_3 tf1_4 tf1_5
  have bw2 : Below w1.heap.size w1 w2 := hw2
  have H2 := Lib.hid (H1.out.later bw2)
  have HLA2 := Lib.hid (HLA1.out.later bw2)
  have HLB2 := Lib.hid (HLB1.out.later bw2)
  have TF2 := Lib.hid (TF1.out.later bw2)
  have HB2 := Lib.hid (HB1.out.trans (bw2.mono HB1.out.size))
  clear hw2 bw2 H1 HLA1 HLB1 TF1 HB1
  go_wp2_with (fail)
  refine (hMa _ (HLA2.out)).mono ?_
  rintro e w3 ⟨rfl, hw3⟩
  have bw3 : Below w2.heap.size w2 w3 := hw3
  have H3 := Lib.hid (H2.out.later bw3)
  have HLA3 := Lib.hid (HLA2.out.later bw3)
  have HLB3 := Lib.hid (HLB2.out.later bw3)
  have TF3 := Lib.hid (TF2.out.later bw3)
  have HB3 := Lib.hid (HB2.out.trans (bw3.mono HB2.out.size))
  clear hw3 bw3 H2 HLA2 HLB2 TF2 HB2
  go_wp2_with (fail)
  refine (hMb _ (HLB3.out)).mono ?_
  rintro e w4 ⟨rfl, hw4⟩
  have bw4 : Below w3.heap.size w3 w4 := hw4
  have H4 := Lib.hid (H3.out.later bw4)
  have HLA4 := Lib.hid (HLA3.out.later bw4)
  have HLB4 := Lib.hid (HLB3.out.later bw4)
  have TF4 := Lib.hid (TF3.out.later bw4)
  have HB4 := Lib.hid (HB3.out.trans (bw4.mono HB3.out.size))
  clear hw4 bw4 H3 HLA3 HLB3 TF3 HB3
  obtain ⟨tf4_0, tf4_1, tf4_2, tf4_3, tf4_4, tf4_5⟩ := TF4.out
  go_wp2_with (fail)
  refine (k1 _ _ _ _ rfl (H4.out) (HLA4.out)).mono ?_
  rintro e w5 ⟨rfl, hw5⟩
  clear tf4_0 tf4_1 tf4_2 tf4_3 tf4_4 tf4_5
  have bw5 : Below w4.heap.size w4 w5 := hw5
  have H5 := Lib.hid (H4.out.later bw5)
  have HLA5 := Lib.hid (HLA4.out.later bw5)
  have HLB5 := Lib.hid (HLB4.out.later bw5)
  have TF5 := Lib.hid (TF4.out.later bw5)
  have HB5 := Lib.hid (HB4.out.trans (bw5.mono HB4.out.size))
  clear hw5 bw5 H4 HLA4 HLB4 TF4 HB4
  obtain ⟨tf5_0, tf5_1, tf5_2, tf5_3, tf5_4, tf5_5⟩ := TF5.out
  go_wp2_with (fail)
  refine (k2 _ _ _ _ rfl (H5.out.later ba1) (HLB5.out.later ba1)).mono ?_
  rintro e w6 ⟨rfl, hw6⟩
  clear tf5_0 tf5_1 tf5_2 tf5_3 tf5_4 tf5_5
  have bw6 : Below w5.heap.size w5 w6 := bel1 hw6
  have TX6 := Lib.hid (C2.n1.later hw6)
  have H6 := Lib.hid (H5.out.later bw6)
  have HLA6 := Lib.hid (HLA5.out.later bw6)
  have HLB6 := Lib.hid (HLB5.out.later bw6)
  have TF6 := Lib.hid (TF5.out.later bw6)
  have HB6 := Lib.hid (HB5.out.trans (bw6.mono HB5.out.size))
  clear hw6 bw6 H5 HLA5 HLB5 TF5 HB5
  obtain ⟨tx6_0, tx6_1, tx6_2, tx6_3⟩ := TX6.out
  have HBz := HB6.out
  go_wp2_with (fail)
  go_ret
  exact ⟨rfl, by repeat (first | (with_reducible exact Below.refl _ _) | (with_reducible refine Below.setCell ?_ ?_ _) | (with_reducible refine Below.drew ?_) | (with_reducible refine Below.alloc ?_ ?_ _) | (with_reducible refine Below.trans ?_ (Below.mono HBz ?_)) | (with_reducible exact HBz.size) | omega | (simp <;> omega) | (simp <;> (have s := HBz.size; omega)) | (have s0 := HBz.size; (try simp at s0); (try simp); omega))⟩

set_option maxHeartbeats 6400000 in
theorem tlo_fx (a b c x1 x2 e y1 y2 g : Int) (fo lo mo : Option Addr) (cap lc mc : Nat) (L : List Q) (l m : List E) (w : World) (hm : LiesO w fo L) (hla : Trs w lo l) (hlb : Trs w mo m)
    (hLg : ∀ W : World, Calls Try.prog 30 #[.agg #[.int .i64 a, .int .i64 b, .int .i64 c, .slice fo L.length cap]] W fun e w' => e = .returned (.bool false) ∧ Below W.heap.size W w')
    (hMa : ∀ W : World, Trs W lo l → Calls Try.prog 15 #[.slice lo l.length lc] W fun e w' => e = .returned (.bool false) ∧ Below W.heap.size W w')
    (hMb : ∀ W : World, Trs W mo m → Calls Try.prog 15 #[.slice mo m.length mc] W fun e w' => e = .returned (.bool false) ∧ Below W.heap.size W w')
    (cX : VaN a b c 0 fo cap L (tm l) x1 x2 e)
    (cY : VaN a b c 0 fo cap L (tm m) y1 y2 g)
    (e1 : e = 0)
    (e2 : g = 0)
    (fX : ∀ W : World, Calls Try.prog 33 #[.agg #[.int .i64 x1, .int .i64 x2]] W fun e w' => e = .returned (.bool false) ∧ Below W.heap.size W w')
    : Calls Try.prog 9 #[.agg #[.int .i64 a, .int .i64 b, .int .i64 c, .slice fo L.length cap], .slice lo l.length lc, .slice mo m.length mc] w fun e w' => e = .returned (.bool true) ∧ Below w.heap.size w w' := by
  have sq := sqK
  have H0 := Lib.hid hm
  have HLA0 := Lib.hid hla
  have HLB0 := Lib.hid hlb
  clear hm hla hlb
  have k1 := cX.ex
  have k2 := cY.ex
  clear cX cY
  subst e1 e2
  go_enter Try.func9, Try.ntmps9
  go_wp2_with (fail)
  refine (sq _ _ lit4).mono ?_
  rintro e w1 ⟨⟨a1, c1, rfl⟩, hw1⟩
  have bw1 : Below w.heap.size w w1 := bel2 hw1
  have TF1 := Lib.hid (FW.n2a.later hw1)
  have H1 := Lib.hid (H0.out.later bw1)
  have HLA1 := Lib.hid (HLA0.out.later bw1)
  have HLB1 := Lib.hid (HLB0.out.later bw1)
  have HB1 := Lib.hid bw1
  clear hw1 bw1 H0 HLA0 HLB0
  obtain ⟨tf1_0, tf1_1, tf1_2, tf1_3, tf1_4, tf1_5⟩ := TF1.out
  clear sq
  go_wp2_with (fail)
  refine (hLg _).mono ?_
  rintro e w2 ⟨rfl, hw2⟩
  clear tf1_0 tf1_1 tf1_2 tf1_3 tf1_4 tf1_5
  have bw2 : Below w1.heap.size w1 w2 := hw2
  have H2 := Lib.hid (H1.out.later bw2)
  have HLA2 := Lib.hid (HLA1.out.later bw2)
  have HLB2 := Lib.hid (HLB1.out.later bw2)
  have TF2 := Lib.hid (TF1.out.later bw2)
  have HB2 := Lib.hid (HB1.out.trans (bw2.mono HB1.out.size))
  clear hw2 bw2 H1 HLA1 HLB1 TF1 HB1
  go_wp2_with (fail)
  refine (hMa _ (HLA2.out)).mono ?_
  rintro e w3 ⟨rfl, hw3⟩
  have bw3 : Below w2.heap.size w2 w3 := hw3
  have H3 := Lib.hid (H2.out.later bw3)
  have HLA3 := Lib.hid (HLA2.out.later bw3)
  have HLB3 := Lib.hid (HLB2.out.later bw3)
  have TF3 := Lib.hid (TF2.out.later bw3)
  have HB3 := Lib.hid (HB2.out.trans (bw3.mono HB2.out.size))
  clear hw3 bw3 H2 HLA2 HLB2 TF2 HB2
  go_wp2_with (fail)
  refine (hMb _ (HLB3.out)).mono ?_
  rintro e w4 ⟨rfl, hw4⟩
  have bw4 : Below w3.heap.size w3 w4 := hw4
  have H4 := Lib.hid (H3.out.later bw4)
  have HLA4 := Lib.hid (HLA3.out.later bw4)
  have HLB4 := Lib.hid (HLB3.out.later bw4)
  have TF4 := Lib.hid (TF3.out.later bw4)
  have HB4 := Lib.hid (HB3.out.trans (bw4.mono HB3.out.size))
  clear hw4 bw4 H3 HLA3 HLB3 TF3 HB3
  obtain ⟨tf4_0, tf4_1, tf4_2, tf4_3, tf4_4, tf4_5⟩ := TF4.out
  go_wp2_with (fail)
  refine (k1 _ _ _ _ rfl (H4.out) (HLA4.out)).mono ?_
  rintro e w5 ⟨rfl, hw5⟩
  clear tf4_0 tf4_1 tf4_2 tf4_3 tf4_4 tf4_5
  have bw5 : Below w4.heap.size w4 w5 := hw5
  have H5 := Lib.hid (H4.out.later bw5)
  have HLA5 := Lib.hid (HLA4.out.later bw5)
  have HLB5 := Lib.hid (HLB4.out.later bw5)
  have TF5 := Lib.hid (TF4.out.later bw5)
  have HB5 := Lib.hid (HB4.out.trans (bw5.mono HB4.out.size))
  clear hw5 bw5 H4 HLA4 HLB4 TF4 HB4
  obtain ⟨tf5_0, tf5_1, tf5_2, tf5_3, tf5_4, tf5_5⟩ := TF5.out
  go_wp2_with (fail)
  refine (k2 _ _ _ _ rfl (H5.out.later ba1) (HLB5.out.later ba1)).mono ?_
  rintro e w6 ⟨rfl, hw6⟩
  clear tf5_0 tf5_1 tf5_2 tf5_3 tf5_4 tf5_5
  have bw6 : Below w5.heap.size w5 w6 := bel1 hw6
  have TX6 := Lib.hid (C2.n1.later hw6)
  have H6 := Lib.hid (H5.out.later bw6)
  have HLA6 := Lib.hid (HLA5.out.later bw6)
  have HLB6 := Lib.hid (HLB5.out.later bw6)
  have TF6 := Lib.hid (TF5.out.later bw6)
  have HB6 := Lib.hid (HB5.out.trans (bw6.mono HB5.out.size))
  clear hw6 bw6 H5 HLA5 HLB5 TF5 HB5
  obtain ⟨tx6_0, tx6_1, tx6_2, tx6_3⟩ := TX6.out
  go_wp2_with (fail)
  refine (fX _).mono ?_
  rintro e w7 ⟨rfl, hw7⟩
  clear tx6_0 tx6_1 tx6_2 tx6_3
  have bw7 : Below w6.heap.size w6 w7 := bel1 hw7
  have TY7 := Lib.hid (C2.n1.later hw7)
  have H7 := Lib.hid (H6.out.later bw7)
  have HLA7 := Lib.hid (HLA6.out.later bw7)
  have HLB7 := Lib.hid (HLB6.out.later bw7)
  have TF7 := Lib.hid (TF6.out.later bw7)
  have TX7 := Lib.hid (TX6.out.later bw7)
  have HB7 := Lib.hid (HB6.out.trans (bw7.mono HB6.out.size))
  clear hw7 bw7 H6 HLA6 HLB6 TF6 TX6 HB6
  go_wp2_with (fail)
  go_ret
  exact ⟨rfl, HB7.out⟩

set_option maxHeartbeats 6400000 in
theorem tlo_fy (a b c x1 x2 e y1 y2 g : Int) (fo lo mo : Option Addr) (cap lc mc : Nat) (L : List Q) (l m : List E) (w : World) (hm : LiesO w fo L) (hla : Trs w lo l) (hlb : Trs w mo m)
    (hLg : ∀ W : World, Calls Try.prog 30 #[.agg #[.int .i64 a, .int .i64 b, .int .i64 c, .slice fo L.length cap]] W fun e w' => e = .returned (.bool false) ∧ Below W.heap.size W w')
    (hMa : ∀ W : World, Trs W lo l → Calls Try.prog 15 #[.slice lo l.length lc] W fun e w' => e = .returned (.bool false) ∧ Below W.heap.size W w')
    (hMb : ∀ W : World, Trs W mo m → Calls Try.prog 15 #[.slice mo m.length mc] W fun e w' => e = .returned (.bool false) ∧ Below W.heap.size W w')
    (cX : VaN a b c 0 fo cap L (tm l) x1 x2 e)
    (cY : VaN a b c 0 fo cap L (tm m) y1 y2 g)
    (e1 : e = 0)
    (e2 : g = 0)
    (fX : ∀ W : World, Calls Try.prog 33 #[.agg #[.int .i64 x1, .int .i64 x2]] W fun e w' => e = .returned (.bool true) ∧ Below W.heap.size W w')
    (fY : ∀ W : World, Calls Try.prog 33 #[.agg #[.int .i64 y1, .int .i64 y2]] W fun e w' => e = .returned (.bool false) ∧ Below W.heap.size W w')
    : Calls Try.prog 9 #[.agg #[.int .i64 a, .int .i64 b, .int .i64 c, .slice fo L.length cap], .slice lo l.length lc, .slice mo m.length mc] w fun e w' => e = .returned (.bool true) ∧ Below w.heap.size w w' := by
  have sq := sqK
  have H0 := Lib.hid hm
  have HLA0 := Lib.hid hla
  have HLB0 := Lib.hid hlb
  clear hm hla hlb
  have k1 := cX.ex
  have k2 := cY.ex
  clear cX cY
  subst e1 e2
  go_enter Try.func9, Try.ntmps9
  go_wp2_with (fail)
  refine (sq _ _ lit4).mono ?_
  rintro e w1 ⟨⟨a1, c1, rfl⟩, hw1⟩
  have bw1 : Below w.heap.size w w1 := bel2 hw1
  have TF1 := Lib.hid (FW.n2a.later hw1)
  have H1 := Lib.hid (H0.out.later bw1)
  have HLA1 := Lib.hid (HLA0.out.later bw1)
  have HLB1 := Lib.hid (HLB0.out.later bw1)
  have HB1 := Lib.hid bw1
  clear hw1 bw1 H0 HLA0 HLB0
  obtain ⟨tf1_0, tf1_1, tf1_2, tf1_3, tf1_4, tf1_5⟩ := TF1.out
  clear sq
  go_wp2_with (fail)
  refine (hLg _).mono ?_
  rintro e w2 ⟨rfl, hw2⟩
  clear tf1_0 tf1_1 tf1_2 tf1_3 tf1_4 tf1_5
  have bw2 : Below w1.heap.size w1 w2 := hw2
  have H2 := Lib.hid (H1.out.later bw2)
  have HLA2 := Lib.hid (HLA1.out.later bw2)
  have HLB2 := Lib.hid (HLB1.out.later bw2)
  have TF2 := Lib.hid (TF1.out.later bw2)
  have HB2 := Lib.hid (HB1.out.trans (bw2.mono HB1.out.size))
  clear hw2 bw2 H1 HLA1 HLB1 TF1 HB1
  go_wp2_with (fail)
  refine (hMa _ (HLA2.out)).mono ?_
  rintro e w3 ⟨rfl, hw3⟩
  have bw3 : Below w2.heap.size w2 w3 := hw3
  have H3 := Lib.hid (H2.out.later bw3)
  have HLA3 := Lib.hid (HLA2.out.later bw3)
  have HLB3 := Lib.hid (HLB2.out.later bw3)
  have TF3 := Lib.hid (TF2.out.later bw3)
  have HB3 := Lib.hid (HB2.out.trans (bw3.mono HB2.out.size))
  clear hw3 bw3 H2 HLA2 HLB2 TF2 HB2
  go_wp2_with (fail)
  refine (hMb _ (HLB3.out)).mono ?_
  rintro e w4 ⟨rfl, hw4⟩
  have bw4 : Below w3.heap.size w3 w4 := hw4
  have H4 := Lib.hid (H3.out.later bw4)
  have HLA4 := Lib.hid (HLA3.out.later bw4)
  have HLB4 := Lib.hid (HLB3.out.later bw4)
  have TF4 := Lib.hid (TF3.out.later bw4)
  have HB4 := Lib.hid (HB3.out.trans (bw4.mono HB3.out.size))
  clear hw4 bw4 H3 HLA3 HLB3 TF3 HB3
  obtain ⟨tf4_0, tf4_1, tf4_2, tf4_3, tf4_4, tf4_5⟩ := TF4.out
  go_wp2_with (fail)
  refine (k1 _ _ _ _ rfl (H4.out) (HLA4.out)).mono ?_
  rintro e w5 ⟨rfl, hw5⟩
  clear tf4_0 tf4_1 tf4_2 tf4_3 tf4_4 tf4_5
  have bw5 : Below w4.heap.size w4 w5 := hw5
  have H5 := Lib.hid (H4.out.later bw5)
  have HLA5 := Lib.hid (HLA4.out.later bw5)
  have HLB5 := Lib.hid (HLB4.out.later bw5)
  have TF5 := Lib.hid (TF4.out.later bw5)
  have HB5 := Lib.hid (HB4.out.trans (bw5.mono HB4.out.size))
  clear hw5 bw5 H4 HLA4 HLB4 TF4 HB4
  obtain ⟨tf5_0, tf5_1, tf5_2, tf5_3, tf5_4, tf5_5⟩ := TF5.out
  go_wp2_with (fail)
  refine (k2 _ _ _ _ rfl (H5.out.later ba1) (HLB5.out.later ba1)).mono ?_
  rintro e w6 ⟨rfl, hw6⟩
  clear tf5_0 tf5_1 tf5_2 tf5_3 tf5_4 tf5_5
  have bw6 : Below w5.heap.size w5 w6 := bel1 hw6
  have TX6 := Lib.hid (C2.n1.later hw6)
  have H6 := Lib.hid (H5.out.later bw6)
  have HLA6 := Lib.hid (HLA5.out.later bw6)
  have HLB6 := Lib.hid (HLB5.out.later bw6)
  have TF6 := Lib.hid (TF5.out.later bw6)
  have HB6 := Lib.hid (HB5.out.trans (bw6.mono HB5.out.size))
  clear hw6 bw6 H5 HLA5 HLB5 TF5 HB5
  obtain ⟨tx6_0, tx6_1, tx6_2, tx6_3⟩ := TX6.out
  go_wp2_with (fail)
  refine (fX _).mono ?_
  rintro e w7 ⟨rfl, hw7⟩
  clear tx6_0 tx6_1 tx6_2 tx6_3
  have bw7 : Below w6.heap.size w6 w7 := bel1 hw7
  have TY7 := Lib.hid (C2.n1.later hw7)
  have H7 := Lib.hid (H6.out.later bw7)
  have HLA7 := Lib.hid (HLA6.out.later bw7)
  have HLB7 := Lib.hid (HLB6.out.later bw7)
  have TF7 := Lib.hid (TF6.out.later bw7)
  have TX7 := Lib.hid (TX6.out.later bw7)
  have HB7 := Lib.hid (HB6.out.trans (bw7.mono HB6.out.size))
  clear hw7 bw7 H6 HLA6 HLB6 TF6 TX6 HB6
  obtain ⟨ty7_0, ty7_1, ty7_2, ty7_3⟩ := TY7.out
  go_wp2_with (fail)
  refine (fY _).mono ?_
  rintro e w8 ⟨rfl, hw8⟩
  clear ty7_0 ty7_1 ty7_2 ty7_3
  have bw8 : Below w7.heap.size w7 w8 := hw8
  have H8 := Lib.hid (H7.out.later bw8)
  have HLA8 := Lib.hid (HLA7.out.later bw8)
  have HLB8 := Lib.hid (HLB7.out.later bw8)
  have TF8 := Lib.hid (TF7.out.later bw8)
  have TX8 := Lib.hid (TX7.out.later bw8)
  have TY8 := Lib.hid (TY7.out.later bw8)
  have HB8 := Lib.hid (HB7.out.trans (bw8.mono HB7.out.size))
  clear hw8 bw8 H7 HLA7 HLB7 TF7 TX7 TY7 HB7
  go_wp2_with (fail)
  go_ret
  exact ⟨rfl, HB8.out⟩

set_option maxHeartbeats 6400000 in
theorem tlo_11 (a b c x1 x2 e y1 y2 g : Int) (fo lo mo : Option Addr) (cap lc mc : Nat) (L : List Q) (l m : List E) (w : World) (hm : LiesO w fo L) (hla : Trs w lo l) (hlb : Trs w mo m) (P S : List Trm) (rp ra p1 p2 s1 s2 : Int)
    (hLg : ∀ W : World, Calls Try.prog 30 #[.agg #[.int .i64 a, .int .i64 b, .int .i64 c, .slice fo L.length cap]] W fun e w' => e = .returned (.bool false) ∧ Below W.heap.size W w')
    (hMa : ∀ W : World, Trs W lo l → Calls Try.prog 15 #[.slice lo l.length lc] W fun e w' => e = .returned (.bool false) ∧ Below W.heap.size W w')
    (hMb : ∀ W : World, Trs W mo m → Calls Try.prog 15 #[.slice mo m.length mc] W fun e w' => e = .returned (.bool false) ∧ Below W.heap.size W w')
    (cX : VaN a b c 0 fo cap L (tm l) x1 x2 e)
    (cY : VaN a b c 0 fo cap L (tm m) y1 y2 g)
    (e1 : e = 0)
    (e2 : g = 0)
    (fX : ∀ W : World, Calls Try.prog 33 #[.agg #[.int .i64 x1, .int .i64 x2]] W fun e w' => e = .returned (.bool true) ∧ Below W.heap.size W w')
    (fY : ∀ W : World, Calls Try.prog 33 #[.agg #[.int .i64 y1, .int .i64 y2]] W fun e w' => e = .returned (.bool true) ∧ Below W.heap.size W w')
    (cT : ∀ W : World, Trs W lo l → Trs W mo m → Calls Try.prog 34 #[.slice lo l.length lc, .slice mo m.length mc] W fun e w' => Ans P rp e w' ∧ Below W.heap.size W w')
    (r1 : rp = 0)
    (vP : VaN a b c 0 fo cap L P p1 p2 0)
    (cR : ∀ W : World, Calls Try.prog 35 #[.int .i64 (x1 * y1), .int .i64 (x2 * y2)] W fun e w' => e = .returned (.agg #[.int .i64 p1, .int .i64 p2]) ∧ Below W.heap.size W w')
    (w1 : IntKind.i64.wrap (x1 * y1) = x1 * y1)
    (w2 : IntKind.i64.wrap (x2 * y2) = x2 * y2)
    (cA : ∀ W : World, Trs W lo l → Trs W mo m → Calls Try.prog 22 #[.slice lo l.length lc, .slice mo m.length mc] W fun e w' => Ans S ra e w' ∧ Below W.heap.size W w')
    (r2 : ra = 0)
    (vS : VaN a b c 0 fo cap L S s1 s2 0)
    (cS : ∀ W : World, Calls Try.prog 35 #[.int .i64 (x1 * y2 + y1 * x2), .int .i64 (x2 * y2)] W fun e w' => e = .returned (.agg #[.int .i64 s1, .int .i64 s2]) ∧ Below W.heap.size W w')
    (w3 : IntKind.i64.wrap (x1 * y2) = x1 * y2)
    (w4 : IntKind.i64.wrap (y1 * x2) = y1 * x2)
    (w5 : IntKind.i64.wrap (x1 * y2 + y1 * x2) = x1 * y2 + y1 * x2)
    (w6 : IntKind.i64.wrap (x2 * y2) = x2 * y2)
    (hLoop : ∀ (k : Nat) (h : k < l.length), LoopF a b c fo cap L l[k].p)
    (h40 : l.length ≤ 1000)
    : Calls Try.prog 9 #[.agg #[.int .i64 a, .int .i64 b, .int .i64 c, .slice fo L.length cap], .slice lo l.length lc, .slice mo m.length mc] w fun e w' => e = .returned (.bool true) ∧ Below w.heap.size w w' := by
  have sq := sqK
  have H0 := Lib.hid hm
  have HLA0 := Lib.hid hla
  have HLB0 := Lib.hid hlb
  clear hm hla hlb
  have k1 := cX.ex
  have k2 := cY.ex
  clear cX cY
  subst e1 e2
  subst r1
  have k3 := vP.ex
  clear vP
  subst r2
  have k4 := vS.ex
  clear vS
  have HLo := Lib.hid hLoop
  clear hLoop
  have OM := H0
  have OA := HLA0
  go_enter Try.func9, Try.ntmps9
  go_wp2_with (fail)
  refine (sq _ _ lit4).mono ?_
  rintro e w1 ⟨⟨a1, c1, rfl⟩, hw1⟩
  have bw1 : Below w.heap.size w w1 := bel2 hw1
  have TF1 := Lib.hid (FW.n2a.later hw1)
  have H1 := Lib.hid (H0.out.later bw1)
  have HLA1 := Lib.hid (HLA0.out.later bw1)
  have HLB1 := Lib.hid (HLB0.out.later bw1)
  have HB1 := Lib.hid bw1
  clear hw1 bw1 H0 HLA0 HLB0
  obtain ⟨tf1_0, tf1_1, tf1_2, tf1_3, tf1_4, tf1_5⟩ := TF1.out
  clear sq
  go_wp2_with (fail)
  refine (hLg _).mono ?_
  rintro e w2 ⟨rfl, hw2⟩
  clear tf1_0 tf1_1 tf1_2 tf1_3 tf1_4 tf1_5
  have bw2 : Below w1.heap.size w1 w2 := hw2
  have H2 := Lib.hid (H1.out.later bw2)
  have HLA2 := Lib.hid (HLA1.out.later bw2)
  have HLB2 := Lib.hid (HLB1.out.later bw2)
  have TF2 := Lib.hid (TF1.out.later bw2)
  have HB2 := Lib.hid (HB1.out.trans (bw2.mono HB1.out.size))
  clear hw2 bw2 H1 HLA1 HLB1 TF1 HB1
  go_wp2_with (fail)
  refine (hMa _ (HLA2.out)).mono ?_
  rintro e w3 ⟨rfl, hw3⟩
  have bw3 : Below w2.heap.size w2 w3 := hw3
  have H3 := Lib.hid (H2.out.later bw3)
  have HLA3 := Lib.hid (HLA2.out.later bw3)
  have HLB3 := Lib.hid (HLB2.out.later bw3)
  have TF3 := Lib.hid (TF2.out.later bw3)
  have HB3 := Lib.hid (HB2.out.trans (bw3.mono HB2.out.size))
  clear hw3 bw3 H2 HLA2 HLB2 TF2 HB2
  go_wp2_with (fail)
  refine (hMb _ (HLB3.out)).mono ?_
  rintro e w4 ⟨rfl, hw4⟩
  have bw4 : Below w3.heap.size w3 w4 := hw4
  have H4 := Lib.hid (H3.out.later bw4)
  have HLA4 := Lib.hid (HLA3.out.later bw4)
  have HLB4 := Lib.hid (HLB3.out.later bw4)
  have TF4 := Lib.hid (TF3.out.later bw4)
  have HB4 := Lib.hid (HB3.out.trans (bw4.mono HB3.out.size))
  clear hw4 bw4 H3 HLA3 HLB3 TF3 HB3
  obtain ⟨tf4_0, tf4_1, tf4_2, tf4_3, tf4_4, tf4_5⟩ := TF4.out
  go_wp2_with (fail)
  refine (k1 _ _ _ _ rfl (H4.out) (HLA4.out)).mono ?_
  rintro e w5 ⟨rfl, hw5⟩
  clear tf4_0 tf4_1 tf4_2 tf4_3 tf4_4 tf4_5
  have bw5 : Below w4.heap.size w4 w5 := hw5
  have H5 := Lib.hid (H4.out.later bw5)
  have HLA5 := Lib.hid (HLA4.out.later bw5)
  have HLB5 := Lib.hid (HLB4.out.later bw5)
  have TF5 := Lib.hid (TF4.out.later bw5)
  have HB5 := Lib.hid (HB4.out.trans (bw5.mono HB4.out.size))
  clear hw5 bw5 H4 HLA4 HLB4 TF4 HB4
  obtain ⟨tf5_0, tf5_1, tf5_2, tf5_3, tf5_4, tf5_5⟩ := TF5.out
  go_wp2_with (fail)
  refine (k2 _ _ _ _ rfl (H5.out.later ba1) (HLB5.out.later ba1)).mono ?_
  rintro e w6 ⟨rfl, hw6⟩
  clear tf5_0 tf5_1 tf5_2 tf5_3 tf5_4 tf5_5
  have bw6 : Below w5.heap.size w5 w6 := bel1 hw6
  have TX6 := Lib.hid (C2.n1.later hw6)
  have H6 := Lib.hid (H5.out.later bw6)
  have HLA6 := Lib.hid (HLA5.out.later bw6)
  have HLB6 := Lib.hid (HLB5.out.later bw6)
  have TF6 := Lib.hid (TF5.out.later bw6)
  have HB6 := Lib.hid (HB5.out.trans (bw6.mono HB5.out.size))
  clear hw6 bw6 H5 HLA5 HLB5 TF5 HB5
  obtain ⟨tx6_0, tx6_1, tx6_2, tx6_3⟩ := TX6.out
  go_wp2_with (fail)
  refine (fX _).mono ?_
  rintro e w7 ⟨rfl, hw7⟩
  clear tx6_0 tx6_1 tx6_2 tx6_3
  have bw7 : Below w6.heap.size w6 w7 := bel1 hw7
  have TY7 := Lib.hid (C2.n1.later hw7)
  have H7 := Lib.hid (H6.out.later bw7)
  have HLA7 := Lib.hid (HLA6.out.later bw7)
  have HLB7 := Lib.hid (HLB6.out.later bw7)
  have TF7 := Lib.hid (TF6.out.later bw7)
  have TX7 := Lib.hid (TX6.out.later bw7)
  have HB7 := Lib.hid (HB6.out.trans (bw7.mono HB6.out.size))
  clear hw7 bw7 H6 HLA6 HLB6 TF6 TX6 HB6
  obtain ⟨ty7_0, ty7_1, ty7_2, ty7_3⟩ := TY7.out
  go_wp2_with (fail)
  refine (fY _).mono ?_
  rintro e w8 ⟨rfl, hw8⟩
  clear ty7_0 ty7_1 ty7_2 ty7_3
  have bw8 : Below w7.heap.size w7 w8 := hw8
  have H8 := Lib.hid (H7.out.later bw8)
  have HLA8 := Lib.hid (HLA7.out.later bw8)
  have HLB8 := Lib.hid (HLB7.out.later bw8)
  have TF8 := Lib.hid (TF7.out.later bw8)
  have TX8 := Lib.hid (TX7.out.later bw8)
  have TY8 := Lib.hid (TY7.out.later bw8)
  have HB8 := Lib.hid (HB7.out.trans (bw8.mono HB7.out.size))
  clear hw8 bw8 H7 HLA7 HLB7 TF7 TX7 TY7 HB7
  go_wp2_with (fail)
  refine (cT _ (HLA8.out) (HLB8.out)).mono ?_
  rintro e w9 ⟨⟨a3, c3, es, rfl, hT, hes, -, -⟩, hw9⟩
  have bw9 : Below w8.heap.size w8 w9 := hw9
  have H9 := Lib.hid (H8.out.later bw9)
  have HLA9 := Lib.hid (HLA8.out.later bw9)
  have HLB9 := Lib.hid (HLB8.out.later bw9)
  have TF9 := Lib.hid (TF8.out.later bw9)
  have TX9 := Lib.hid (TX8.out.later bw9)
  have TY9 := Lib.hid (TY8.out.later bw9)
  have HB9 := Lib.hid (HB8.out.trans (bw9.mono HB8.out.size))
  have HP9 := Lib.hid hT
  clear hT
  clear hw9 bw9 H8 HLA8 HLB8 TF8 TX8 TY8 HB8
  obtain ⟨tf9_0, tf9_1, tf9_2, tf9_3, tf9_4, tf9_5⟩ := TF9.out
  go_wp2_with (fail)
  refine (k3 _ _ _ _ hes (H9.out) (HP9.out)).mono ?_
  rintro e w10 ⟨rfl, hw10⟩
  clear tf9_0 tf9_1 tf9_2 tf9_3 tf9_4 tf9_5
  have bw10 : Below w9.heap.size w9 w10 := hw10
  have H10 := Lib.hid (H9.out.later bw10)
  have HLA10 := Lib.hid (HLA9.out.later bw10)
  have HLB10 := Lib.hid (HLB9.out.later bw10)
  have TF10 := Lib.hid (TF9.out.later bw10)
  have TX10 := Lib.hid (TX9.out.later bw10)
  have TY10 := Lib.hid (TY9.out.later bw10)
  have HP10 := Lib.hid (HP9.out.later bw10)
  have HB10 := Lib.hid (HB9.out.trans (bw10.mono HB9.out.size))
  clear hw10 bw10 H9 HLA9 HLB9 TF9 TX9 TY9 HP9 HB9
  go_wp2_with (fail)
  have N11 : C2 (w10.alloc (.cells #[.int .i64 p1, .int .i64 p2] 52)) w10.heap.size (.int .i64 p1) (.int .i64 p2) := C2.n1
  have bw11 : Below w10.heap.size w10 (w10.alloc (.cells #[.int .i64 p1, .int .i64 p2] 52)) := ba1
  generalize w10.alloc (.cells #[.int .i64 p1, .int .i64 p2] 52) = w11 at *
  have TP11 := Lib.hid N11
  have H11 := Lib.hid (H10.out.later bw11)
  have HLA11 := Lib.hid (HLA10.out.later bw11)
  have HLB11 := Lib.hid (HLB10.out.later bw11)
  have TF11 := Lib.hid (TF10.out.later bw11)
  have TX11 := Lib.hid (TX10.out.later bw11)
  have TY11 := Lib.hid (TY10.out.later bw11)
  have HP11 := Lib.hid (HP10.out.later bw11)
  have HB11 := Lib.hid (HB10.out.trans (bw11.mono HB10.out.size))
  clear bw11 N11 HB10 H10 HLA10 HLB10 TF10 TX10 TY10 HP10
  obtain ⟨tp11_0, tp11_1, tp11_2, tp11_3⟩ := TP11.out
  obtain ⟨tx11_0, tx11_1, tx11_2, tx11_3⟩ := TX11.out
  obtain ⟨ty11_0, ty11_1, ty11_2, ty11_3⟩ := TY11.out
  have kc := @Tail.cell_re
  go_wp2_with (fail)
  refine Tail.region_below (by kernel_rfl) (by kernel_rfl) ?_
  repeat (go_big_quiet_step (first | (with_reducible exact Calls.regrown_of (cR _))))
  refine wpQuiet_nil ?_
  intro w12 hw12
  clear tp11_0 tp11_1 tp11_2 tp11_3 tx11_0 tx11_1 tx11_2 tx11_3 ty11_0 ty11_1 ty11_2 ty11_3
  have H12 := Lib.hid (H11.out.later hw12)
  have HLA12 := Lib.hid (HLA11.out.later hw12)
  have HLB12 := Lib.hid (HLB11.out.later hw12)
  have TF12 := Lib.hid (TF11.out.later hw12)
  have TX12 := Lib.hid (TX11.out.later hw12)
  have TY12 := Lib.hid (TY11.out.later hw12)
  have HP12 := Lib.hid (HP11.out.later hw12)
  have TP12 := Lib.hid (TP11.out.later hw12)
  have HB12 := Lib.hid (HB11.out.trans (hw12.mono HB11.out.size))
  clear kc hw12 HB11 H11 HLA11 HLB11 TF11 TX11 TY11 HP11 TP11
  clear TP12
  clear HP12
  go_wp2_with (fail)
  refine (cA _ (HLA12.out) (HLB12.out)).mono ?_
  rintro e w13 ⟨⟨a4, c4, es2, rfl, hT2, hes2, -, -⟩, hw13⟩
  have bw13 : Below w12.heap.size w12 w13 := hw13
  have H13 := Lib.hid (H12.out.later bw13)
  have HLA13 := Lib.hid (HLA12.out.later bw13)
  have HLB13 := Lib.hid (HLB12.out.later bw13)
  have TF13 := Lib.hid (TF12.out.later bw13)
  have TX13 := Lib.hid (TX12.out.later bw13)
  have TY13 := Lib.hid (TY12.out.later bw13)
  have HB13 := Lib.hid (HB12.out.trans (bw13.mono HB12.out.size))
  have HS13 := Lib.hid hT2
  clear hT2
  clear hw13 bw13 H12 HLA12 HLB12 TF12 TX12 TY12 HB12
  obtain ⟨tf13_0, tf13_1, tf13_2, tf13_3, tf13_4, tf13_5⟩ := TF13.out
  go_wp2_with (fail)
  refine (k4 _ _ _ _ hes2 (H13.out) (HS13.out)).mono ?_
  rintro e w14 ⟨rfl, hw14⟩
  clear tf13_0 tf13_1 tf13_2 tf13_3 tf13_4 tf13_5
  have bw14 : Below w13.heap.size w13 w14 := hw14
  have H14 := Lib.hid (H13.out.later bw14)
  have HLA14 := Lib.hid (HLA13.out.later bw14)
  have HLB14 := Lib.hid (HLB13.out.later bw14)
  have TF14 := Lib.hid (TF13.out.later bw14)
  have TX14 := Lib.hid (TX13.out.later bw14)
  have TY14 := Lib.hid (TY13.out.later bw14)
  have HS14 := Lib.hid (HS13.out.later bw14)
  have HB14 := Lib.hid (HB13.out.trans (bw14.mono HB13.out.size))
  clear hw14 bw14 H13 HLA13 HLB13 TF13 TX13 TY13 HS13 HB13
  go_wp2_with (fail)
  have N15 : C2 (w14.alloc (.cells #[.int .i64 s1, .int .i64 s2] 52)) w14.heap.size (.int .i64 s1) (.int .i64 s2) := C2.n1
  have bw15 : Below w14.heap.size w14 (w14.alloc (.cells #[.int .i64 s1, .int .i64 s2] 52)) := ba1
  generalize w14.alloc (.cells #[.int .i64 s1, .int .i64 s2] 52) = w15 at *
  have TS15 := Lib.hid N15
  have H15 := Lib.hid (H14.out.later bw15)
  have HLA15 := Lib.hid (HLA14.out.later bw15)
  have HLB15 := Lib.hid (HLB14.out.later bw15)
  have TF15 := Lib.hid (TF14.out.later bw15)
  have TX15 := Lib.hid (TX14.out.later bw15)
  have TY15 := Lib.hid (TY14.out.later bw15)
  have HS15 := Lib.hid (HS14.out.later bw15)
  have HB15 := Lib.hid (HB14.out.trans (bw15.mono HB14.out.size))
  clear bw15 N15 HB14 H14 HLA14 HLB14 TF14 TX14 TY14 HS14
  obtain ⟨ts15_0, ts15_1, ts15_2, ts15_3⟩ := TS15.out
  obtain ⟨tx15_0, tx15_1, tx15_2, tx15_3⟩ := TX15.out
  obtain ⟨ty15_0, ty15_1, ty15_2, ty15_3⟩ := TY15.out
  have kc := @Tail.cell_re
  go_wp2_with (fail)
  refine Tail.region_below (by kernel_rfl) (by kernel_rfl) ?_
  repeat (go_big_quiet_step (first | (with_reducible exact Calls.regrown_of (cS _))))
  refine wpQuiet_nil ?_
  intro w16 hw16
  clear ts15_0 ts15_1 ts15_2 ts15_3 tx15_0 tx15_1 tx15_2 tx15_3 ty15_0 ty15_1 ty15_2 ty15_3
  have H16 := Lib.hid (H15.out.later hw16)
  have HLA16 := Lib.hid (HLA15.out.later hw16)
  have HLB16 := Lib.hid (HLB15.out.later hw16)
  have TF16 := Lib.hid (TF15.out.later hw16)
  have TX16 := Lib.hid (TX15.out.later hw16)
  have TY16 := Lib.hid (TY15.out.later hw16)
  have HS16 := Lib.hid (HS15.out.later hw16)
  have TS16 := Lib.hid (TS15.out.later hw16)
  have HB16 := Lib.hid (HB15.out.trans (hw16.mono HB15.out.size))
  clear kc hw16 HB15 H15 HLA15 HLB15 TF15 TX15 TY15 HS15 TS15
  clear TS16
  clear HS16
  clear TX16
  clear TY16
  go_wp2
  have BZ := HB16.out
  go_loopw [21, 22, 23, 24, 25, 26, 27] (fun q _ _ _ _ _ _ wr => ∃ k : Nat, k ≤ l.length ∧ q = .int .i64 k ∧ Hid (FW wr w.heap.size a b c (.slice fo L.length cap)) ∧ Below w.heap.size w wr) (fun q _ _ _ _ _ _ _ => l.length - (intOf q).toNat)
  case atStart => exact ⟨0, by omega, rfl, TF16, BZ⟩
  case round =>
    obtain ⟨k, hk, rfl, hf, hb⟩ := hrel
    clear BZ TF16 HB16 H16 HLA16 HLB16
    have hbs := hb.size
    by_cases hlt : k < l.length
    · have i1 : (k : Int) < (l.length : Int) := by omega
      have hTr := OA.out.later hb
      obtain ⟨pb, po, rfl, x0, x1, hpx⟩ := hTr.at_ hlt
      have HPX := Lib.hid hpx
      have xl := World.block_lt_of_cell? wr _ x0
      have hO := OM.out.later hb
      have HO := Lib.hid hO
      obtain ⟨t1, t2, rq, q1, q2, M, hT, hSq, hc⟩ := (HLo.out k hlt).f
      have kT := hT.ex
      clear hT hTr hpx hO
      generalize l[k] = e at *
      obtain ⟨ec, ep, ea, ek⟩ := e
      simp only at x0 x1 kT hSq HPX
      have HC := Lib.hid hc
      clear hc x0
      obtain ⟨f0, f1, f2, f3, ff, fl⟩ := hf.out
      have K5 : Hid (∀ w' : World, Below wr.heap.size wr w' → (w'.cell? ⟨w.heap.size, 0, none⟩ = some (.int .i64 a) ∧ w'.cell? ⟨w.heap.size, 1, none⟩ = some (.int .i64 b) ∧ w'.cell? ⟨w.heap.size, 2, none⟩ = some (.int .i64 c) ∧ w'.cell? ⟨w.heap.size, 3, none⟩ = some (.slice fo L.length cap) ∧ w'.cell? ⟨pb, po + k * 2 + 1, none⟩ = some (.slice ea ep.length ek))) := Lib.hid (fun w' h => ⟨held_belowT h f0, held_belowT h f1, held_belowT h f2, held_belowT h f3, held_belowT h x1⟩)
      go_wp2
      go_region_held3 (fun w' => w'.cell? ⟨w.heap.size, 0, none⟩ = some (.int .i64 a) ∧ w'.cell? ⟨w.heap.size, 1, none⟩ = some (.int .i64 b) ∧ w'.cell? ⟨w.heap.size, 2, none⟩ = some (.int .i64 c) ∧ w'.cell? ⟨w.heap.size, 3, none⟩ = some (.slice fo L.length cap) ∧ w'.cell? ⟨pb, po + k * 2 + 1, none⟩ = some (.slice ea ep.length ek))
        (first
          | go_keep
          | (exact K5.out _ (Below.refl _ _))
          | (exact K5.out _ ba1)
          | (exact K5.out _ (belD hw1))
          | (exact K5.out _ (belA hw1))
          | (exact K5.out _ (bel1 hw1))
          | (exact K5.out _ (belS (belA hw1)))
          | (exact K5.out _ (belS (bel1 hw1)))
          | (exact K5.out _ ((belD hw1).trans (ba1.mono (belD hw1).size))))
        (first
          | ((with_reducible refine (kT _ _ _ (HO.out.later (Below.refl _ _)) (HPX.out.later (Below.refl _ _))).mono ?_); rintro e w1 ⟨rfl, hw1⟩; have hc1 := Tail.cells hw1)
          | ((with_reducible refine (kT _ _ _ (HO.out.later (Below.drew (Below.refl _ _))) (HPX.out.later (Below.drew (Below.refl _ _)))).mono ?_); rintro e w1 ⟨rfl, hw1⟩; have hc1 := Tail.cells hw1)
          | ((with_reducible refine (kT _ _ _ (HO.out.later ba1) (HPX.out.later ba1)).mono ?_); rintro e w1 ⟨rfl, hw1⟩; have hc1 := Tail.cells hw1)
          | ((with_reducible refine (kT _ _ _ (HO.out.later (by repeat (first | (with_reducible exact Below.refl _ _) | (with_reducible refine Below.setCell ?_ ?_ _) | (with_reducible refine Below.drew ?_) | (with_reducible refine Below.alloc ?_ ?_ _) | omega | (simp <;> omega)))) (HPX.out.later (by repeat (first | (with_reducible exact Below.refl _ _) | (with_reducible refine Below.setCell ?_ ?_ _) | (with_reducible refine Below.drew ?_) | (with_reducible refine Below.alloc ?_ ?_ _) | omega | (simp <;> omega))))).mono ?_); rintro e w1 ⟨rfl, hw1⟩; have hc1 := Tail.cells hw1))
      · have b1 : Below wr.heap.size wr w1 := ⟨hw1.os, hw1.tape, hw1.output, hw1.size, hw1.block⟩
        have b5 : Below wr.heap.size wr (w1.alloc (.cells #[.int .i64 t1, .int .i64 t2] 52)) := b1.trans (ba1.mono b1.size)
        have R5 : RB (w1.alloc (.cells #[.int .i64 t1, .int .i64 t2] 52)) w1.heap.size (t1, t2) := ⟨by simp [go_sem], by simp [go_sem], fun j => by simp [go_sem], by simp⟩
        clear hw1 hc1 b1
        generalize w1.alloc (.cells #[.int .i64 t1, .int .i64 t2] 52) = w5 at *
        generalize w1.heap.size = bb at *
        have X1 := (b5.cell xl).trans x1
        clear f0 f1 f2 f3 ff fl kT x1
        go_wp2_with (fail)
        have hf5 := hf.out.later b5
        have b5w : Below w.heap.size w w5 := hb.trans (b5.mono hbs)
        refine (hSq _ _ _ (HPX.out.later b5)).mono ?_
        rintro e w6 ⟨⟨a6, c6, es6, rfl, hE, hes6, -, -⟩, hw6⟩
        have R6 := R5.later hw6
        have hf6 := Lib.hid (hf5.later hw6)
        have b6 := b5w.trans (hw6.mono b5w.size)
        have HE := Lib.hid hE
        clear X1 hf5 b5w R5 b5 hw6 hSq hE
        rcases HC.out with hq | ⟨rfl, hV, hfit⟩
        · have q3 : (rq != 0) = true := by simpa using hq
          go_wp2
          exact ⟨⟨k + 1, by omega, by go_num, hf6, b6⟩, by simp [intOf]; omega⟩
        · have kV := hV.ex
          have HF := Lib.hid hfit
          clear hV hfit
          obtain ⟨g0, g1, g2, g3, gf, gl⟩ := hf6.out
          go_wp2_with (fail)
          refine (kV _ _ _ _ hes6 (OM.out.later b6) HE.out).mono ?_
          rintro e w7 ⟨rfl, hw7⟩
          have R7 := R6.later hw7
          have hf7 := hf6.out.later hw7
          have b7 := b6.trans (hw7.mono b6.size)
          have R8 := R7.later (ba1 (o := .cells #[.int .i64 q1, .int .i64 q2] 52))
          have hf8 := Lib.hid (hf7.later (ba1 (o := .cells #[.int .i64 q1, .int .i64 q2] 52)))
          have b8 := b7.trans ((ba1 (o := .cells #[.int .i64 q1, .int .i64 q2] 52)).mono b7.size)
          have N8 : C2 (w7.alloc (.cells #[.int .i64 q1, .int .i64 q2] 52)) w7.heap.size (.int .i64 q1) (.int .i64 q2) := C2.n1
          clear g0 g1 g2 g3 gf gl kV hw7 R6 R7 hf7 hf6 b6 b7 HE
          have kc := @Tail.cell_re
          rcases HF.out with hno | ⟨hyes, w8, w9, cR⟩
          · go_wp2
            generalize w7.alloc (.cells #[.int .i64 q1, .int .i64 q2] 52) = w8 at *
            obtain ⟨r0, r1, rf, rlt⟩ := R8
            obtain ⟨n0, n1, nf, nlt⟩ := N8
            refine Tail.region_below (by kernel_rfl) (by kernel_rfl) ?_
            repeat (go_big_quiet_step (first | (with_reducible exact Calls.regrown_of (fits_no _ _ _ hno))))
            refine wpQuiet_nil ?_
            intro w9 hw9
            have hf9 := Lib.hid (hf8.out.later hw9)
            have b9 := b8.trans (hw9.mono b8.size)
            clear r0 r1 rf rlt n0 n1 nf nlt hw9
            go_wp2
            exact ⟨⟨k + 1, by omega, by go_num, hf9, b9⟩, by simp [intOf]; omega⟩
          · go_wp2
            generalize w7.alloc (.cells #[.int .i64 q1, .int .i64 q2] 52) = w8' at *
            obtain ⟨r0, r1, rf, rlt⟩ := R8
            obtain ⟨n0, n1, nf, nlt⟩ := N8
            refine Tail.region_below (by kernel_rfl) (by kernel_rfl) ?_
            repeat (go_big_quiet_step (first | (with_reducible exact Calls.regrown_of (fits_yes _ _ _ hyes)) | (with_reducible exact Calls.regrown_of (cR _))))
            refine wpQuiet_nil ?_
            intro w9' hw9
            have hf9 := Lib.hid (hf8.out.later hw9)
            have b9 := b8.trans (hw9.mono b8.size)
            clear r0 r1 rf rlt n0 n1 nf nlt hw9
            go_wp2
            exact ⟨⟨k + 1, by omega, by go_num, hf9, b9⟩, by simp [intOf]; omega⟩
      · have R4 : RB w1 wr.heap.size (0, 0) := ⟨(hw1.cell (p := ⟨wr.heap.size, 0, none⟩) (by simp)).trans (by simp [go_sem]), (hw1.cell (p := ⟨wr.heap.size, 1, none⟩) (by simp)).trans (by simp [go_sem]), fun j => (hw1.frozen (p := ⟨wr.heap.size, j, none⟩) (by simp)).trans (by simp [go_sem]), Nat.lt_of_lt_of_le (by simp) hw1.size⟩
        have R5 := R4.put (t1, t2)
        have b5 : Below wr.heap.size wr ((w1.setCell ⟨wr.heap.size, 0, none⟩ (.int .i64 t1)).setCell ⟨wr.heap.size, 1, none⟩ (.int .i64 t2)) := by repeat (first | (with_reducible exact Below.refl _ _) | (with_reducible refine Below.setCell ?_ ?_ _) | (with_reducible refine Below.drew ?_) | (with_reducible refine Below.alloc ?_ ?_ _) | (with_reducible refine Below.trans ?_ (Below.mono hw1 ?_)) | (with_reducible exact hw1.size) | omega | (simp <;> omega) | (simp <;> (have s := hw1.size; omega)) | (have s0 := hw1.size; (try simp at s0); (try simp); omega))
        clear hw1 hc1 R4
        generalize (w1.setCell ⟨wr.heap.size, 0, none⟩ (.int .i64 t1)).setCell ⟨wr.heap.size, 1, none⟩ (.int .i64 t2) = w5 at *
        have X1 := (b5.cell xl).trans x1
        clear f0 f1 f2 f3 ff fl kT x1
        go_wp2_with (fail)
        have hf5 := hf.out.later b5
        have b5w : Below w.heap.size w w5 := hb.trans (b5.mono hbs)
        refine (hSq _ _ _ (HPX.out.later b5)).mono ?_
        rintro e w6 ⟨⟨a6, c6, es6, rfl, hE, hes6, -, -⟩, hw6⟩
        have R6 := R5.later hw6
        have hf6 := Lib.hid (hf5.later hw6)
        have b6 := b5w.trans (hw6.mono b5w.size)
        have HE := Lib.hid hE
        clear X1 hf5 b5w R5 b5 hw6 hSq hE
        rcases HC.out with hq | ⟨rfl, hV, hfit⟩
        · have q3 : (rq != 0) = true := by simpa using hq
          go_wp2
          exact ⟨⟨k + 1, by omega, by go_num, hf6, b6⟩, by simp [intOf]; omega⟩
        · have kV := hV.ex
          have HF := Lib.hid hfit
          clear hV hfit
          obtain ⟨g0, g1, g2, g3, gf, gl⟩ := hf6.out
          go_wp2_with (fail)
          refine (kV _ _ _ _ hes6 (OM.out.later b6) HE.out).mono ?_
          rintro e w7 ⟨rfl, hw7⟩
          have R7 := R6.later hw7
          have hf7 := hf6.out.later hw7
          have b7 := b6.trans (hw7.mono b6.size)
          have R8 := R7.later (ba1 (o := .cells #[.int .i64 q1, .int .i64 q2] 52))
          have hf8 := Lib.hid (hf7.later (ba1 (o := .cells #[.int .i64 q1, .int .i64 q2] 52)))
          have b8 := b7.trans ((ba1 (o := .cells #[.int .i64 q1, .int .i64 q2] 52)).mono b7.size)
          have N8 : C2 (w7.alloc (.cells #[.int .i64 q1, .int .i64 q2] 52)) w7.heap.size (.int .i64 q1) (.int .i64 q2) := C2.n1
          clear g0 g1 g2 g3 gf gl kV hw7 R6 R7 hf7 hf6 b6 b7 HE
          have kc := @Tail.cell_re
          rcases HF.out with hno | ⟨hyes, w8, w9, cR⟩
          · go_wp2
            generalize w7.alloc (.cells #[.int .i64 q1, .int .i64 q2] 52) = w8 at *
            obtain ⟨r0, r1, rf, rlt⟩ := R8
            obtain ⟨n0, n1, nf, nlt⟩ := N8
            refine Tail.region_below (by kernel_rfl) (by kernel_rfl) ?_
            repeat (go_big_quiet_step (first | (with_reducible exact Calls.regrown_of (fits_no _ _ _ hno))))
            refine wpQuiet_nil ?_
            intro w9 hw9
            have hf9 := Lib.hid (hf8.out.later hw9)
            have b9 := b8.trans (hw9.mono b8.size)
            clear r0 r1 rf rlt n0 n1 nf nlt hw9
            go_wp2
            exact ⟨⟨k + 1, by omega, by go_num, hf9, b9⟩, by simp [intOf]; omega⟩
          · go_wp2
            generalize w7.alloc (.cells #[.int .i64 q1, .int .i64 q2] 52) = w8' at *
            obtain ⟨r0, r1, rf, rlt⟩ := R8
            obtain ⟨n0, n1, nf, nlt⟩ := N8
            refine Tail.region_below (by kernel_rfl) (by kernel_rfl) ?_
            repeat (go_big_quiet_step (first | (with_reducible exact Calls.regrown_of (fits_yes _ _ _ hyes)) | (with_reducible exact Calls.regrown_of (cR _))))
            refine wpQuiet_nil ?_
            intro w9' hw9
            have hf9 := Lib.hid (hf8.out.later hw9)
            have b9 := b8.trans (hw9.mono b8.size)
            clear r0 r1 rf rlt n0 n1 nf nlt hw9
            go_wp2
            exact ⟨⟨k + 1, by omega, by go_num, hf9, b9⟩, by simp [intOf]; omega⟩
    · obtain rfl : k = l.length := by omega
      go_wp2
      go_ret
      exact ⟨rfl, hb⟩

set_option maxHeartbeats 6400000 in
theorem tlo_10 (a b c x1 x2 e y1 y2 g : Int) (fo lo mo : Option Addr) (cap lc mc : Nat) (L : List Q) (l m : List E) (w : World) (hm : LiesO w fo L) (hla : Trs w lo l) (hlb : Trs w mo m) (P S : List Trm) (rp ra p1 p2 s1 s2 : Int)
    (hLg : ∀ W : World, Calls Try.prog 30 #[.agg #[.int .i64 a, .int .i64 b, .int .i64 c, .slice fo L.length cap]] W fun e w' => e = .returned (.bool false) ∧ Below W.heap.size W w')
    (hMa : ∀ W : World, Trs W lo l → Calls Try.prog 15 #[.slice lo l.length lc] W fun e w' => e = .returned (.bool false) ∧ Below W.heap.size W w')
    (hMb : ∀ W : World, Trs W mo m → Calls Try.prog 15 #[.slice mo m.length mc] W fun e w' => e = .returned (.bool false) ∧ Below W.heap.size W w')
    (cX : VaN a b c 0 fo cap L (tm l) x1 x2 e)
    (cY : VaN a b c 0 fo cap L (tm m) y1 y2 g)
    (e1 : e = 0)
    (e2 : g = 0)
    (fX : ∀ W : World, Calls Try.prog 33 #[.agg #[.int .i64 x1, .int .i64 x2]] W fun e w' => e = .returned (.bool true) ∧ Below W.heap.size W w')
    (fY : ∀ W : World, Calls Try.prog 33 #[.agg #[.int .i64 y1, .int .i64 y2]] W fun e w' => e = .returned (.bool true) ∧ Below W.heap.size W w')
    (cT : ∀ W : World, Trs W lo l → Trs W mo m → Calls Try.prog 34 #[.slice lo l.length lc, .slice mo m.length mc] W fun e w' => Ans P rp e w' ∧ Below W.heap.size W w')
    (r1 : rp = 0)
    (vP : VaN a b c 0 fo cap L P p1 p2 0)
    (cR : ∀ W : World, Calls Try.prog 35 #[.int .i64 (x1 * y1), .int .i64 (x2 * y2)] W fun e w' => e = .returned (.agg #[.int .i64 p1, .int .i64 p2]) ∧ Below W.heap.size W w')
    (w1 : IntKind.i64.wrap (x1 * y1) = x1 * y1)
    (w2 : IntKind.i64.wrap (x2 * y2) = x2 * y2)
    (cA : ∀ W : World, Trs W lo l → Trs W mo m → Calls Try.prog 22 #[.slice lo l.length lc, .slice mo m.length mc] W fun e w' => Ans S ra e w' ∧ Below W.heap.size W w')
    (r2 : ra ≠ 0)
    (hLoop : ∀ (k : Nat) (h : k < l.length), LoopF a b c fo cap L l[k].p)
    (h40 : l.length ≤ 1000)
    : Calls Try.prog 9 #[.agg #[.int .i64 a, .int .i64 b, .int .i64 c, .slice fo L.length cap], .slice lo l.length lc, .slice mo m.length mc] w fun e w' => e = .returned (.bool true) ∧ Below w.heap.size w w' := by
  have sq := sqK
  have H0 := Lib.hid hm
  have HLA0 := Lib.hid hla
  have HLB0 := Lib.hid hlb
  clear hm hla hlb
  have k1 := cX.ex
  have k2 := cY.ex
  clear cX cY
  subst e1 e2
  subst r1
  have k3 := vP.ex
  clear vP
  have q2 : (ra == 0) = false := by simpa using r2
  clear r2
  have HLo := Lib.hid hLoop
  clear hLoop
  have OM := H0
  have OA := HLA0
  go_enter Try.func9, Try.ntmps9
  go_wp2_with (fail)
  refine (sq _ _ lit4).mono ?_
  rintro e w1 ⟨⟨a1, c1, rfl⟩, hw1⟩
  have bw1 : Below w.heap.size w w1 := bel2 hw1
  have TF1 := Lib.hid (FW.n2a.later hw1)
  have H1 := Lib.hid (H0.out.later bw1)
  have HLA1 := Lib.hid (HLA0.out.later bw1)
  have HLB1 := Lib.hid (HLB0.out.later bw1)
  have HB1 := Lib.hid bw1
  clear hw1 bw1 H0 HLA0 HLB0
  obtain ⟨tf1_0, tf1_1, tf1_2, tf1_3, tf1_4, tf1_5⟩ := TF1.out
  clear sq
  go_wp2_with (fail)
  refine (hLg _).mono ?_
  rintro e w2 ⟨rfl, hw2⟩
  clear tf1_0 tf1_1 tf1_2 tf1_3 tf1_4 tf1_5
  have bw2 : Below w1.heap.size w1 w2 := hw2
  have H2 := Lib.hid (H1.out.later bw2)
  have HLA2 := Lib.hid (HLA1.out.later bw2)
  have HLB2 := Lib.hid (HLB1.out.later bw2)
  have TF2 := Lib.hid (TF1.out.later bw2)
  have HB2 := Lib.hid (HB1.out.trans (bw2.mono HB1.out.size))
  clear hw2 bw2 H1 HLA1 HLB1 TF1 HB1
  go_wp2_with (fail)
  refine (hMa _ (HLA2.out)).mono ?_
  rintro e w3 ⟨rfl, hw3⟩
  have bw3 : Below w2.heap.size w2 w3 := hw3
  have H3 := Lib.hid (H2.out.later bw3)
  have HLA3 := Lib.hid (HLA2.out.later bw3)
  have HLB3 := Lib.hid (HLB2.out.later bw3)
  have TF3 := Lib.hid (TF2.out.later bw3)
  have HB3 := Lib.hid (HB2.out.trans (bw3.mono HB2.out.size))
  clear hw3 bw3 H2 HLA2 HLB2 TF2 HB2
  go_wp2_with (fail)
  refine (hMb _ (HLB3.out)).mono ?_
  rintro e w4 ⟨rfl, hw4⟩
  have bw4 : Below w3.heap.size w3 w4 := hw4
  have H4 := Lib.hid (H3.out.later bw4)
  have HLA4 := Lib.hid (HLA3.out.later bw4)
  have HLB4 := Lib.hid (HLB3.out.later bw4)
  have TF4 := Lib.hid (TF3.out.later bw4)
  have HB4 := Lib.hid (HB3.out.trans (bw4.mono HB3.out.size))
  clear hw4 bw4 H3 HLA3 HLB3 TF3 HB3
  obtain ⟨tf4_0, tf4_1, tf4_2, tf4_3, tf4_4, tf4_5⟩ := TF4.out
  go_wp2_with (fail)
  refine (k1 _ _ _ _ rfl (H4.out) (HLA4.out)).mono ?_
  rintro e w5 ⟨rfl, hw5⟩
  clear tf4_0 tf4_1 tf4_2 tf4_3 tf4_4 tf4_5
  have bw5 : Below w4.heap.size w4 w5 := hw5
  have H5 := Lib.hid (H4.out.later bw5)
  have HLA5 := Lib.hid (HLA4.out.later bw5)
  have HLB5 := Lib.hid (HLB4.out.later bw5)
  have TF5 := Lib.hid (TF4.out.later bw5)
  have HB5 := Lib.hid (HB4.out.trans (bw5.mono HB4.out.size))
  clear hw5 bw5 H4 HLA4 HLB4 TF4 HB4
  obtain ⟨tf5_0, tf5_1, tf5_2, tf5_3, tf5_4, tf5_5⟩ := TF5.out
  go_wp2_with (fail)
  refine (k2 _ _ _ _ rfl (H5.out.later ba1) (HLB5.out.later ba1)).mono ?_
  rintro e w6 ⟨rfl, hw6⟩
  clear tf5_0 tf5_1 tf5_2 tf5_3 tf5_4 tf5_5
  have bw6 : Below w5.heap.size w5 w6 := bel1 hw6
  have TX6 := Lib.hid (C2.n1.later hw6)
  have H6 := Lib.hid (H5.out.later bw6)
  have HLA6 := Lib.hid (HLA5.out.later bw6)
  have HLB6 := Lib.hid (HLB5.out.later bw6)
  have TF6 := Lib.hid (TF5.out.later bw6)
  have HB6 := Lib.hid (HB5.out.trans (bw6.mono HB5.out.size))
  clear hw6 bw6 H5 HLA5 HLB5 TF5 HB5
  obtain ⟨tx6_0, tx6_1, tx6_2, tx6_3⟩ := TX6.out
  go_wp2_with (fail)
  refine (fX _).mono ?_
  rintro e w7 ⟨rfl, hw7⟩
  clear tx6_0 tx6_1 tx6_2 tx6_3
  have bw7 : Below w6.heap.size w6 w7 := bel1 hw7
  have TY7 := Lib.hid (C2.n1.later hw7)
  have H7 := Lib.hid (H6.out.later bw7)
  have HLA7 := Lib.hid (HLA6.out.later bw7)
  have HLB7 := Lib.hid (HLB6.out.later bw7)
  have TF7 := Lib.hid (TF6.out.later bw7)
  have TX7 := Lib.hid (TX6.out.later bw7)
  have HB7 := Lib.hid (HB6.out.trans (bw7.mono HB6.out.size))
  clear hw7 bw7 H6 HLA6 HLB6 TF6 TX6 HB6
  obtain ⟨ty7_0, ty7_1, ty7_2, ty7_3⟩ := TY7.out
  go_wp2_with (fail)
  refine (fY _).mono ?_
  rintro e w8 ⟨rfl, hw8⟩
  clear ty7_0 ty7_1 ty7_2 ty7_3
  have bw8 : Below w7.heap.size w7 w8 := hw8
  have H8 := Lib.hid (H7.out.later bw8)
  have HLA8 := Lib.hid (HLA7.out.later bw8)
  have HLB8 := Lib.hid (HLB7.out.later bw8)
  have TF8 := Lib.hid (TF7.out.later bw8)
  have TX8 := Lib.hid (TX7.out.later bw8)
  have TY8 := Lib.hid (TY7.out.later bw8)
  have HB8 := Lib.hid (HB7.out.trans (bw8.mono HB7.out.size))
  clear hw8 bw8 H7 HLA7 HLB7 TF7 TX7 TY7 HB7
  go_wp2_with (fail)
  refine (cT _ (HLA8.out) (HLB8.out)).mono ?_
  rintro e w9 ⟨⟨a3, c3, es, rfl, hT, hes, -, -⟩, hw9⟩
  have bw9 : Below w8.heap.size w8 w9 := hw9
  have H9 := Lib.hid (H8.out.later bw9)
  have HLA9 := Lib.hid (HLA8.out.later bw9)
  have HLB9 := Lib.hid (HLB8.out.later bw9)
  have TF9 := Lib.hid (TF8.out.later bw9)
  have TX9 := Lib.hid (TX8.out.later bw9)
  have TY9 := Lib.hid (TY8.out.later bw9)
  have HB9 := Lib.hid (HB8.out.trans (bw9.mono HB8.out.size))
  have HP9 := Lib.hid hT
  clear hT
  clear hw9 bw9 H8 HLA8 HLB8 TF8 TX8 TY8 HB8
  obtain ⟨tf9_0, tf9_1, tf9_2, tf9_3, tf9_4, tf9_5⟩ := TF9.out
  go_wp2_with (fail)
  refine (k3 _ _ _ _ hes (H9.out) (HP9.out)).mono ?_
  rintro e w10 ⟨rfl, hw10⟩
  clear tf9_0 tf9_1 tf9_2 tf9_3 tf9_4 tf9_5
  have bw10 : Below w9.heap.size w9 w10 := hw10
  have H10 := Lib.hid (H9.out.later bw10)
  have HLA10 := Lib.hid (HLA9.out.later bw10)
  have HLB10 := Lib.hid (HLB9.out.later bw10)
  have TF10 := Lib.hid (TF9.out.later bw10)
  have TX10 := Lib.hid (TX9.out.later bw10)
  have TY10 := Lib.hid (TY9.out.later bw10)
  have HP10 := Lib.hid (HP9.out.later bw10)
  have HB10 := Lib.hid (HB9.out.trans (bw10.mono HB9.out.size))
  clear hw10 bw10 H9 HLA9 HLB9 TF9 TX9 TY9 HP9 HB9
  go_wp2_with (fail)
  have N11 : C2 (w10.alloc (.cells #[.int .i64 p1, .int .i64 p2] 52)) w10.heap.size (.int .i64 p1) (.int .i64 p2) := C2.n1
  have bw11 : Below w10.heap.size w10 (w10.alloc (.cells #[.int .i64 p1, .int .i64 p2] 52)) := ba1
  generalize w10.alloc (.cells #[.int .i64 p1, .int .i64 p2] 52) = w11 at *
  have TP11 := Lib.hid N11
  have H11 := Lib.hid (H10.out.later bw11)
  have HLA11 := Lib.hid (HLA10.out.later bw11)
  have HLB11 := Lib.hid (HLB10.out.later bw11)
  have TF11 := Lib.hid (TF10.out.later bw11)
  have TX11 := Lib.hid (TX10.out.later bw11)
  have TY11 := Lib.hid (TY10.out.later bw11)
  have HP11 := Lib.hid (HP10.out.later bw11)
  have HB11 := Lib.hid (HB10.out.trans (bw11.mono HB10.out.size))
  clear bw11 N11 HB10 H10 HLA10 HLB10 TF10 TX10 TY10 HP10
  obtain ⟨tp11_0, tp11_1, tp11_2, tp11_3⟩ := TP11.out
  obtain ⟨tx11_0, tx11_1, tx11_2, tx11_3⟩ := TX11.out
  obtain ⟨ty11_0, ty11_1, ty11_2, ty11_3⟩ := TY11.out
  have kc := @Tail.cell_re
  go_wp2_with (fail)
  refine Tail.region_below (by kernel_rfl) (by kernel_rfl) ?_
  repeat (go_big_quiet_step (first | (with_reducible exact Calls.regrown_of (cR _))))
  refine wpQuiet_nil ?_
  intro w12 hw12
  clear tp11_0 tp11_1 tp11_2 tp11_3 tx11_0 tx11_1 tx11_2 tx11_3 ty11_0 ty11_1 ty11_2 ty11_3
  have H12 := Lib.hid (H11.out.later hw12)
  have HLA12 := Lib.hid (HLA11.out.later hw12)
  have HLB12 := Lib.hid (HLB11.out.later hw12)
  have TF12 := Lib.hid (TF11.out.later hw12)
  have TX12 := Lib.hid (TX11.out.later hw12)
  have TY12 := Lib.hid (TY11.out.later hw12)
  have HP12 := Lib.hid (HP11.out.later hw12)
  have TP12 := Lib.hid (TP11.out.later hw12)
  have HB12 := Lib.hid (HB11.out.trans (hw12.mono HB11.out.size))
  clear kc hw12 HB11 H11 HLA11 HLB11 TF11 TX11 TY11 HP11 TP11
  clear TP12
  clear HP12
  go_wp2_with (fail)
  refine (cA _ (HLA12.out) (HLB12.out)).mono ?_
  rintro e w13 ⟨⟨a4, c4, es2, rfl, hT2, hes2, -, -⟩, hw13⟩
  have bw13 : Below w12.heap.size w12 w13 := hw13
  have H13 := Lib.hid (H12.out.later bw13)
  have HLA13 := Lib.hid (HLA12.out.later bw13)
  have HLB13 := Lib.hid (HLB12.out.later bw13)
  have TF13 := Lib.hid (TF12.out.later bw13)
  have TX13 := Lib.hid (TX12.out.later bw13)
  have TY13 := Lib.hid (TY12.out.later bw13)
  have HB13 := Lib.hid (HB12.out.trans (bw13.mono HB12.out.size))
  have HS13 := Lib.hid hT2
  clear hT2
  clear hw13 bw13 H12 HLA12 HLB12 TF12 TX12 TY12 HB12
  obtain ⟨tf13_0, tf13_1, tf13_2, tf13_3, tf13_4, tf13_5⟩ := TF13.out
  clear HS13
  clear TX13
  clear TY13
  clear tf13_0 tf13_1 tf13_2 tf13_3 tf13_4 tf13_5
  go_wp2
  have BZ := HB13.out
  go_loopw [21, 22, 23, 24, 25, 26, 27] (fun q _ _ _ _ _ _ wr => ∃ k : Nat, k ≤ l.length ∧ q = .int .i64 k ∧ Hid (FW wr w.heap.size a b c (.slice fo L.length cap)) ∧ Below w.heap.size w wr) (fun q _ _ _ _ _ _ _ => l.length - (intOf q).toNat)
  case atStart => exact ⟨0, by omega, rfl, TF13, BZ⟩
  case round =>
    obtain ⟨k, hk, rfl, hf, hb⟩ := hrel
    clear BZ TF13 HB13 H13 HLA13 HLB13
    have hbs := hb.size
    by_cases hlt : k < l.length
    · have i1 : (k : Int) < (l.length : Int) := by omega
      have hTr := OA.out.later hb
      obtain ⟨pb, po, rfl, x0, x1, hpx⟩ := hTr.at_ hlt
      have HPX := Lib.hid hpx
      have xl := World.block_lt_of_cell? wr _ x0
      have hO := OM.out.later hb
      have HO := Lib.hid hO
      obtain ⟨t1, t2, rq, q1, q2, M, hT, hSq, hc⟩ := (HLo.out k hlt).f
      have kT := hT.ex
      clear hT hTr hpx hO
      generalize l[k] = e at *
      obtain ⟨ec, ep, ea, ek⟩ := e
      simp only at x0 x1 kT hSq HPX
      have HC := Lib.hid hc
      clear hc x0
      obtain ⟨f0, f1, f2, f3, ff, fl⟩ := hf.out
      have K5 : Hid (∀ w' : World, Below wr.heap.size wr w' → (w'.cell? ⟨w.heap.size, 0, none⟩ = some (.int .i64 a) ∧ w'.cell? ⟨w.heap.size, 1, none⟩ = some (.int .i64 b) ∧ w'.cell? ⟨w.heap.size, 2, none⟩ = some (.int .i64 c) ∧ w'.cell? ⟨w.heap.size, 3, none⟩ = some (.slice fo L.length cap) ∧ w'.cell? ⟨pb, po + k * 2 + 1, none⟩ = some (.slice ea ep.length ek))) := Lib.hid (fun w' h => ⟨held_belowT h f0, held_belowT h f1, held_belowT h f2, held_belowT h f3, held_belowT h x1⟩)
      go_wp2
      go_region_held3 (fun w' => w'.cell? ⟨w.heap.size, 0, none⟩ = some (.int .i64 a) ∧ w'.cell? ⟨w.heap.size, 1, none⟩ = some (.int .i64 b) ∧ w'.cell? ⟨w.heap.size, 2, none⟩ = some (.int .i64 c) ∧ w'.cell? ⟨w.heap.size, 3, none⟩ = some (.slice fo L.length cap) ∧ w'.cell? ⟨pb, po + k * 2 + 1, none⟩ = some (.slice ea ep.length ek))
        (first
          | go_keep
          | (exact K5.out _ (Below.refl _ _))
          | (exact K5.out _ ba1)
          | (exact K5.out _ (belD hw1))
          | (exact K5.out _ (belA hw1))
          | (exact K5.out _ (bel1 hw1))
          | (exact K5.out _ (belS (belA hw1)))
          | (exact K5.out _ (belS (bel1 hw1)))
          | (exact K5.out _ ((belD hw1).trans (ba1.mono (belD hw1).size))))
        (first
          | ((with_reducible refine (kT _ _ _ (HO.out.later (Below.refl _ _)) (HPX.out.later (Below.refl _ _))).mono ?_); rintro e w1 ⟨rfl, hw1⟩; have hc1 := Tail.cells hw1)
          | ((with_reducible refine (kT _ _ _ (HO.out.later (Below.drew (Below.refl _ _))) (HPX.out.later (Below.drew (Below.refl _ _)))).mono ?_); rintro e w1 ⟨rfl, hw1⟩; have hc1 := Tail.cells hw1)
          | ((with_reducible refine (kT _ _ _ (HO.out.later ba1) (HPX.out.later ba1)).mono ?_); rintro e w1 ⟨rfl, hw1⟩; have hc1 := Tail.cells hw1)
          | ((with_reducible refine (kT _ _ _ (HO.out.later (by repeat (first | (with_reducible exact Below.refl _ _) | (with_reducible refine Below.setCell ?_ ?_ _) | (with_reducible refine Below.drew ?_) | (with_reducible refine Below.alloc ?_ ?_ _) | omega | (simp <;> omega)))) (HPX.out.later (by repeat (first | (with_reducible exact Below.refl _ _) | (with_reducible refine Below.setCell ?_ ?_ _) | (with_reducible refine Below.drew ?_) | (with_reducible refine Below.alloc ?_ ?_ _) | omega | (simp <;> omega))))).mono ?_); rintro e w1 ⟨rfl, hw1⟩; have hc1 := Tail.cells hw1))
      · have b1 : Below wr.heap.size wr w1 := ⟨hw1.os, hw1.tape, hw1.output, hw1.size, hw1.block⟩
        have b5 : Below wr.heap.size wr (w1.alloc (.cells #[.int .i64 t1, .int .i64 t2] 52)) := b1.trans (ba1.mono b1.size)
        have R5 : RB (w1.alloc (.cells #[.int .i64 t1, .int .i64 t2] 52)) w1.heap.size (t1, t2) := ⟨by simp [go_sem], by simp [go_sem], fun j => by simp [go_sem], by simp⟩
        clear hw1 hc1 b1
        generalize w1.alloc (.cells #[.int .i64 t1, .int .i64 t2] 52) = w5 at *
        generalize w1.heap.size = bb at *
        have X1 := (b5.cell xl).trans x1
        clear f0 f1 f2 f3 ff fl kT x1
        go_wp2_with (fail)
        have hf5 := hf.out.later b5
        have b5w : Below w.heap.size w w5 := hb.trans (b5.mono hbs)
        refine (hSq _ _ _ (HPX.out.later b5)).mono ?_
        rintro e w6 ⟨⟨a6, c6, es6, rfl, hE, hes6, -, -⟩, hw6⟩
        have R6 := R5.later hw6
        have hf6 := Lib.hid (hf5.later hw6)
        have b6 := b5w.trans (hw6.mono b5w.size)
        have HE := Lib.hid hE
        clear X1 hf5 b5w R5 b5 hw6 hSq hE
        rcases HC.out with hq | ⟨rfl, hV, hfit⟩
        · have q3 : (rq != 0) = true := by simpa using hq
          go_wp2
          exact ⟨⟨k + 1, by omega, by go_num, hf6, b6⟩, by simp [intOf]; omega⟩
        · have kV := hV.ex
          have HF := Lib.hid hfit
          clear hV hfit
          obtain ⟨g0, g1, g2, g3, gf, gl⟩ := hf6.out
          go_wp2_with (fail)
          refine (kV _ _ _ _ hes6 (OM.out.later b6) HE.out).mono ?_
          rintro e w7 ⟨rfl, hw7⟩
          have R7 := R6.later hw7
          have hf7 := hf6.out.later hw7
          have b7 := b6.trans (hw7.mono b6.size)
          have R8 := R7.later (ba1 (o := .cells #[.int .i64 q1, .int .i64 q2] 52))
          have hf8 := Lib.hid (hf7.later (ba1 (o := .cells #[.int .i64 q1, .int .i64 q2] 52)))
          have b8 := b7.trans ((ba1 (o := .cells #[.int .i64 q1, .int .i64 q2] 52)).mono b7.size)
          have N8 : C2 (w7.alloc (.cells #[.int .i64 q1, .int .i64 q2] 52)) w7.heap.size (.int .i64 q1) (.int .i64 q2) := C2.n1
          clear g0 g1 g2 g3 gf gl kV hw7 R6 R7 hf7 hf6 b6 b7 HE
          have kc := @Tail.cell_re
          rcases HF.out with hno | ⟨hyes, w8, w9, cR⟩
          · go_wp2
            generalize w7.alloc (.cells #[.int .i64 q1, .int .i64 q2] 52) = w8 at *
            obtain ⟨r0, r1, rf, rlt⟩ := R8
            obtain ⟨n0, n1, nf, nlt⟩ := N8
            refine Tail.region_below (by kernel_rfl) (by kernel_rfl) ?_
            repeat (go_big_quiet_step (first | (with_reducible exact Calls.regrown_of (fits_no _ _ _ hno))))
            refine wpQuiet_nil ?_
            intro w9 hw9
            have hf9 := Lib.hid (hf8.out.later hw9)
            have b9 := b8.trans (hw9.mono b8.size)
            clear r0 r1 rf rlt n0 n1 nf nlt hw9
            go_wp2
            exact ⟨⟨k + 1, by omega, by go_num, hf9, b9⟩, by simp [intOf]; omega⟩
          · go_wp2
            generalize w7.alloc (.cells #[.int .i64 q1, .int .i64 q2] 52) = w8' at *
            obtain ⟨r0, r1, rf, rlt⟩ := R8
            obtain ⟨n0, n1, nf, nlt⟩ := N8
            refine Tail.region_below (by kernel_rfl) (by kernel_rfl) ?_
            repeat (go_big_quiet_step (first | (with_reducible exact Calls.regrown_of (fits_yes _ _ _ hyes)) | (with_reducible exact Calls.regrown_of (cR _))))
            refine wpQuiet_nil ?_
            intro w9' hw9
            have hf9 := Lib.hid (hf8.out.later hw9)
            have b9 := b8.trans (hw9.mono b8.size)
            clear r0 r1 rf rlt n0 n1 nf nlt hw9
            go_wp2
            exact ⟨⟨k + 1, by omega, by go_num, hf9, b9⟩, by simp [intOf]; omega⟩
      · have R4 : RB w1 wr.heap.size (0, 0) := ⟨(hw1.cell (p := ⟨wr.heap.size, 0, none⟩) (by simp)).trans (by simp [go_sem]), (hw1.cell (p := ⟨wr.heap.size, 1, none⟩) (by simp)).trans (by simp [go_sem]), fun j => (hw1.frozen (p := ⟨wr.heap.size, j, none⟩) (by simp)).trans (by simp [go_sem]), Nat.lt_of_lt_of_le (by simp) hw1.size⟩
        have R5 := R4.put (t1, t2)
        have b5 : Below wr.heap.size wr ((w1.setCell ⟨wr.heap.size, 0, none⟩ (.int .i64 t1)).setCell ⟨wr.heap.size, 1, none⟩ (.int .i64 t2)) := by repeat (first | (with_reducible exact Below.refl _ _) | (with_reducible refine Below.setCell ?_ ?_ _) | (with_reducible refine Below.drew ?_) | (with_reducible refine Below.alloc ?_ ?_ _) | (with_reducible refine Below.trans ?_ (Below.mono hw1 ?_)) | (with_reducible exact hw1.size) | omega | (simp <;> omega) | (simp <;> (have s := hw1.size; omega)) | (have s0 := hw1.size; (try simp at s0); (try simp); omega))
        clear hw1 hc1 R4
        generalize (w1.setCell ⟨wr.heap.size, 0, none⟩ (.int .i64 t1)).setCell ⟨wr.heap.size, 1, none⟩ (.int .i64 t2) = w5 at *
        have X1 := (b5.cell xl).trans x1
        clear f0 f1 f2 f3 ff fl kT x1
        go_wp2_with (fail)
        have hf5 := hf.out.later b5
        have b5w : Below w.heap.size w w5 := hb.trans (b5.mono hbs)
        refine (hSq _ _ _ (HPX.out.later b5)).mono ?_
        rintro e w6 ⟨⟨a6, c6, es6, rfl, hE, hes6, -, -⟩, hw6⟩
        have R6 := R5.later hw6
        have hf6 := Lib.hid (hf5.later hw6)
        have b6 := b5w.trans (hw6.mono b5w.size)
        have HE := Lib.hid hE
        clear X1 hf5 b5w R5 b5 hw6 hSq hE
        rcases HC.out with hq | ⟨rfl, hV, hfit⟩
        · have q3 : (rq != 0) = true := by simpa using hq
          go_wp2
          exact ⟨⟨k + 1, by omega, by go_num, hf6, b6⟩, by simp [intOf]; omega⟩
        · have kV := hV.ex
          have HF := Lib.hid hfit
          clear hV hfit
          obtain ⟨g0, g1, g2, g3, gf, gl⟩ := hf6.out
          go_wp2_with (fail)
          refine (kV _ _ _ _ hes6 (OM.out.later b6) HE.out).mono ?_
          rintro e w7 ⟨rfl, hw7⟩
          have R7 := R6.later hw7
          have hf7 := hf6.out.later hw7
          have b7 := b6.trans (hw7.mono b6.size)
          have R8 := R7.later (ba1 (o := .cells #[.int .i64 q1, .int .i64 q2] 52))
          have hf8 := Lib.hid (hf7.later (ba1 (o := .cells #[.int .i64 q1, .int .i64 q2] 52)))
          have b8 := b7.trans ((ba1 (o := .cells #[.int .i64 q1, .int .i64 q2] 52)).mono b7.size)
          have N8 : C2 (w7.alloc (.cells #[.int .i64 q1, .int .i64 q2] 52)) w7.heap.size (.int .i64 q1) (.int .i64 q2) := C2.n1
          clear g0 g1 g2 g3 gf gl kV hw7 R6 R7 hf7 hf6 b6 b7 HE
          have kc := @Tail.cell_re
          rcases HF.out with hno | ⟨hyes, w8, w9, cR⟩
          · go_wp2
            generalize w7.alloc (.cells #[.int .i64 q1, .int .i64 q2] 52) = w8 at *
            obtain ⟨r0, r1, rf, rlt⟩ := R8
            obtain ⟨n0, n1, nf, nlt⟩ := N8
            refine Tail.region_below (by kernel_rfl) (by kernel_rfl) ?_
            repeat (go_big_quiet_step (first | (with_reducible exact Calls.regrown_of (fits_no _ _ _ hno))))
            refine wpQuiet_nil ?_
            intro w9 hw9
            have hf9 := Lib.hid (hf8.out.later hw9)
            have b9 := b8.trans (hw9.mono b8.size)
            clear r0 r1 rf rlt n0 n1 nf nlt hw9
            go_wp2
            exact ⟨⟨k + 1, by omega, by go_num, hf9, b9⟩, by simp [intOf]; omega⟩
          · go_wp2
            generalize w7.alloc (.cells #[.int .i64 q1, .int .i64 q2] 52) = w8' at *
            obtain ⟨r0, r1, rf, rlt⟩ := R8
            obtain ⟨n0, n1, nf, nlt⟩ := N8
            refine Tail.region_below (by kernel_rfl) (by kernel_rfl) ?_
            repeat (go_big_quiet_step (first | (with_reducible exact Calls.regrown_of (fits_yes _ _ _ hyes)) | (with_reducible exact Calls.regrown_of (cR _))))
            refine wpQuiet_nil ?_
            intro w9' hw9
            have hf9 := Lib.hid (hf8.out.later hw9)
            have b9 := b8.trans (hw9.mono b8.size)
            clear r0 r1 rf rlt n0 n1 nf nlt hw9
            go_wp2
            exact ⟨⟨k + 1, by omega, by go_num, hf9, b9⟩, by simp [intOf]; omega⟩
    · obtain rfl : k = l.length := by omega
      go_wp2
      go_ret
      exact ⟨rfl, hb⟩

set_option maxHeartbeats 6400000 in
theorem tlo_01 (a b c x1 x2 e y1 y2 g : Int) (fo lo mo : Option Addr) (cap lc mc : Nat) (L : List Q) (l m : List E) (w : World) (hm : LiesO w fo L) (hla : Trs w lo l) (hlb : Trs w mo m) (P S : List Trm) (rp ra p1 p2 s1 s2 : Int)
    (hLg : ∀ W : World, Calls Try.prog 30 #[.agg #[.int .i64 a, .int .i64 b, .int .i64 c, .slice fo L.length cap]] W fun e w' => e = .returned (.bool false) ∧ Below W.heap.size W w')
    (hMa : ∀ W : World, Trs W lo l → Calls Try.prog 15 #[.slice lo l.length lc] W fun e w' => e = .returned (.bool false) ∧ Below W.heap.size W w')
    (hMb : ∀ W : World, Trs W mo m → Calls Try.prog 15 #[.slice mo m.length mc] W fun e w' => e = .returned (.bool false) ∧ Below W.heap.size W w')
    (cX : VaN a b c 0 fo cap L (tm l) x1 x2 e)
    (cY : VaN a b c 0 fo cap L (tm m) y1 y2 g)
    (e1 : e = 0)
    (e2 : g = 0)
    (fX : ∀ W : World, Calls Try.prog 33 #[.agg #[.int .i64 x1, .int .i64 x2]] W fun e w' => e = .returned (.bool true) ∧ Below W.heap.size W w')
    (fY : ∀ W : World, Calls Try.prog 33 #[.agg #[.int .i64 y1, .int .i64 y2]] W fun e w' => e = .returned (.bool true) ∧ Below W.heap.size W w')
    (cT : ∀ W : World, Trs W lo l → Trs W mo m → Calls Try.prog 34 #[.slice lo l.length lc, .slice mo m.length mc] W fun e w' => Ans P rp e w' ∧ Below W.heap.size W w')
    (r1 : rp ≠ 0)
    (cA : ∀ W : World, Trs W lo l → Trs W mo m → Calls Try.prog 22 #[.slice lo l.length lc, .slice mo m.length mc] W fun e w' => Ans S ra e w' ∧ Below W.heap.size W w')
    (r2 : ra = 0)
    (vS : VaN a b c 0 fo cap L S s1 s2 0)
    (cS : ∀ W : World, Calls Try.prog 35 #[.int .i64 (x1 * y2 + y1 * x2), .int .i64 (x2 * y2)] W fun e w' => e = .returned (.agg #[.int .i64 s1, .int .i64 s2]) ∧ Below W.heap.size W w')
    (w3 : IntKind.i64.wrap (x1 * y2) = x1 * y2)
    (w4 : IntKind.i64.wrap (y1 * x2) = y1 * x2)
    (w5 : IntKind.i64.wrap (x1 * y2 + y1 * x2) = x1 * y2 + y1 * x2)
    (w6 : IntKind.i64.wrap (x2 * y2) = x2 * y2)
    (hLoop : ∀ (k : Nat) (h : k < l.length), LoopF a b c fo cap L l[k].p)
    (h40 : l.length ≤ 1000)
    : Calls Try.prog 9 #[.agg #[.int .i64 a, .int .i64 b, .int .i64 c, .slice fo L.length cap], .slice lo l.length lc, .slice mo m.length mc] w fun e w' => e = .returned (.bool true) ∧ Below w.heap.size w w' := by
  have sq := sqK
  have H0 := Lib.hid hm
  have HLA0 := Lib.hid hla
  have HLB0 := Lib.hid hlb
  clear hm hla hlb
  have k1 := cX.ex
  have k2 := cY.ex
  clear cX cY
  subst e1 e2
  have q1 : (rp == 0) = false := by simpa using r1
  clear r1
  subst r2
  have k4 := vS.ex
  clear vS
  have HLo := Lib.hid hLoop
  clear hLoop
  have OM := H0
  have OA := HLA0
  go_enter Try.func9, Try.ntmps9
  go_wp2_with (fail)
  refine (sq _ _ lit4).mono ?_
  rintro e w1 ⟨⟨a1, c1, rfl⟩, hw1⟩
  have bw1 : Below w.heap.size w w1 := bel2 hw1
  have TF1 := Lib.hid (FW.n2a.later hw1)
  have H1 := Lib.hid (H0.out.later bw1)
  have HLA1 := Lib.hid (HLA0.out.later bw1)
  have HLB1 := Lib.hid (HLB0.out.later bw1)
  have HB1 := Lib.hid bw1
  clear hw1 bw1 H0 HLA0 HLB0
  obtain ⟨tf1_0, tf1_1, tf1_2, tf1_3, tf1_4, tf1_5⟩ := TF1.out
  clear sq
  go_wp2_with (fail)
  refine (hLg _).mono ?_
  rintro e w2 ⟨rfl, hw2⟩
  clear tf1_0 tf1_1 tf1_2 tf1_3 tf1_4 tf1_5
  have bw2 : Below w1.heap.size w1 w2 := hw2
  have H2 := Lib.hid (H1.out.later bw2)
  have HLA2 := Lib.hid (HLA1.out.later bw2)
  have HLB2 := Lib.hid (HLB1.out.later bw2)
  have TF2 := Lib.hid (TF1.out.later bw2)
  have HB2 := Lib.hid (HB1.out.trans (bw2.mono HB1.out.size))
  clear hw2 bw2 H1 HLA1 HLB1 TF1 HB1
  go_wp2_with (fail)
  refine (hMa _ (HLA2.out)).mono ?_
  rintro e w3 ⟨rfl, hw3⟩
  have bw3 : Below w2.heap.size w2 w3 := hw3
  have H3 := Lib.hid (H2.out.later bw3)
  have HLA3 := Lib.hid (HLA2.out.later bw3)
  have HLB3 := Lib.hid (HLB2.out.later bw3)
  have TF3 := Lib.hid (TF2.out.later bw3)
  have HB3 := Lib.hid (HB2.out.trans (bw3.mono HB2.out.size))
  clear hw3 bw3 H2 HLA2 HLB2 TF2 HB2
  go_wp2_with (fail)
  refine (hMb _ (HLB3.out)).mono ?_
  rintro e w4 ⟨rfl, hw4⟩
  have bw4 : Below w3.heap.size w3 w4 := hw4
  have H4 := Lib.hid (H3.out.later bw4)
  have HLA4 := Lib.hid (HLA3.out.later bw4)
  have HLB4 := Lib.hid (HLB3.out.later bw4)
  have TF4 := Lib.hid (TF3.out.later bw4)
  have HB4 := Lib.hid (HB3.out.trans (bw4.mono HB3.out.size))
  clear hw4 bw4 H3 HLA3 HLB3 TF3 HB3
  obtain ⟨tf4_0, tf4_1, tf4_2, tf4_3, tf4_4, tf4_5⟩ := TF4.out
  go_wp2_with (fail)
  refine (k1 _ _ _ _ rfl (H4.out) (HLA4.out)).mono ?_
  rintro e w5 ⟨rfl, hw5⟩
  clear tf4_0 tf4_1 tf4_2 tf4_3 tf4_4 tf4_5
  have bw5 : Below w4.heap.size w4 w5 := hw5
  have H5 := Lib.hid (H4.out.later bw5)
  have HLA5 := Lib.hid (HLA4.out.later bw5)
  have HLB5 := Lib.hid (HLB4.out.later bw5)
  have TF5 := Lib.hid (TF4.out.later bw5)
  have HB5 := Lib.hid (HB4.out.trans (bw5.mono HB4.out.size))
  clear hw5 bw5 H4 HLA4 HLB4 TF4 HB4
  obtain ⟨tf5_0, tf5_1, tf5_2, tf5_3, tf5_4, tf5_5⟩ := TF5.out
  go_wp2_with (fail)
  refine (k2 _ _ _ _ rfl (H5.out.later ba1) (HLB5.out.later ba1)).mono ?_
  rintro e w6 ⟨rfl, hw6⟩
  clear tf5_0 tf5_1 tf5_2 tf5_3 tf5_4 tf5_5
  have bw6 : Below w5.heap.size w5 w6 := bel1 hw6
  have TX6 := Lib.hid (C2.n1.later hw6)
  have H6 := Lib.hid (H5.out.later bw6)
  have HLA6 := Lib.hid (HLA5.out.later bw6)
  have HLB6 := Lib.hid (HLB5.out.later bw6)
  have TF6 := Lib.hid (TF5.out.later bw6)
  have HB6 := Lib.hid (HB5.out.trans (bw6.mono HB5.out.size))
  clear hw6 bw6 H5 HLA5 HLB5 TF5 HB5
  obtain ⟨tx6_0, tx6_1, tx6_2, tx6_3⟩ := TX6.out
  go_wp2_with (fail)
  refine (fX _).mono ?_
  rintro e w7 ⟨rfl, hw7⟩
  clear tx6_0 tx6_1 tx6_2 tx6_3
  have bw7 : Below w6.heap.size w6 w7 := bel1 hw7
  have TY7 := Lib.hid (C2.n1.later hw7)
  have H7 := Lib.hid (H6.out.later bw7)
  have HLA7 := Lib.hid (HLA6.out.later bw7)
  have HLB7 := Lib.hid (HLB6.out.later bw7)
  have TF7 := Lib.hid (TF6.out.later bw7)
  have TX7 := Lib.hid (TX6.out.later bw7)
  have HB7 := Lib.hid (HB6.out.trans (bw7.mono HB6.out.size))
  clear hw7 bw7 H6 HLA6 HLB6 TF6 TX6 HB6
  obtain ⟨ty7_0, ty7_1, ty7_2, ty7_3⟩ := TY7.out
  go_wp2_with (fail)
  refine (fY _).mono ?_
  rintro e w8 ⟨rfl, hw8⟩
  clear ty7_0 ty7_1 ty7_2 ty7_3
  have bw8 : Below w7.heap.size w7 w8 := hw8
  have H8 := Lib.hid (H7.out.later bw8)
  have HLA8 := Lib.hid (HLA7.out.later bw8)
  have HLB8 := Lib.hid (HLB7.out.later bw8)
  have TF8 := Lib.hid (TF7.out.later bw8)
  have TX8 := Lib.hid (TX7.out.later bw8)
  have TY8 := Lib.hid (TY7.out.later bw8)
  have HB8 := Lib.hid (HB7.out.trans (bw8.mono HB7.out.size))
  clear hw8 bw8 H7 HLA7 HLB7 TF7 TX7 TY7 HB7
  go_wp2_with (fail)
  refine (cT _ (HLA8.out) (HLB8.out)).mono ?_
  rintro e w9 ⟨⟨a3, c3, es, rfl, hT, hes, -, -⟩, hw9⟩
  have bw9 : Below w8.heap.size w8 w9 := hw9
  have H9 := Lib.hid (H8.out.later bw9)
  have HLA9 := Lib.hid (HLA8.out.later bw9)
  have HLB9 := Lib.hid (HLB8.out.later bw9)
  have TF9 := Lib.hid (TF8.out.later bw9)
  have TX9 := Lib.hid (TX8.out.later bw9)
  have TY9 := Lib.hid (TY8.out.later bw9)
  have HB9 := Lib.hid (HB8.out.trans (bw9.mono HB8.out.size))
  have HP9 := Lib.hid hT
  clear hT
  clear hw9 bw9 H8 HLA8 HLB8 TF8 TX8 TY8 HB8
  obtain ⟨tf9_0, tf9_1, tf9_2, tf9_3, tf9_4, tf9_5⟩ := TF9.out
  clear HP9
  go_wp2_with (fail)
  refine (cA _ (HLA9.out) (HLB9.out)).mono ?_
  rintro e w10 ⟨⟨a4, c4, es2, rfl, hT2, hes2, -, -⟩, hw10⟩
  clear tf9_0 tf9_1 tf9_2 tf9_3 tf9_4 tf9_5
  have bw10 : Below w9.heap.size w9 w10 := hw10
  have H10 := Lib.hid (H9.out.later bw10)
  have HLA10 := Lib.hid (HLA9.out.later bw10)
  have HLB10 := Lib.hid (HLB9.out.later bw10)
  have TF10 := Lib.hid (TF9.out.later bw10)
  have TX10 := Lib.hid (TX9.out.later bw10)
  have TY10 := Lib.hid (TY9.out.later bw10)
  have HB10 := Lib.hid (HB9.out.trans (bw10.mono HB9.out.size))
  have HS10 := Lib.hid hT2
  clear hT2
  clear hw10 bw10 H9 HLA9 HLB9 TF9 TX9 TY9 HB9
  obtain ⟨tf10_0, tf10_1, tf10_2, tf10_3, tf10_4, tf10_5⟩ := TF10.out
  go_wp2_with (fail)
  refine (k4 _ _ _ _ hes2 (H10.out) (HS10.out)).mono ?_
  rintro e w11 ⟨rfl, hw11⟩
  clear tf10_0 tf10_1 tf10_2 tf10_3 tf10_4 tf10_5
  have bw11 : Below w10.heap.size w10 w11 := hw11
  have H11 := Lib.hid (H10.out.later bw11)
  have HLA11 := Lib.hid (HLA10.out.later bw11)
  have HLB11 := Lib.hid (HLB10.out.later bw11)
  have TF11 := Lib.hid (TF10.out.later bw11)
  have TX11 := Lib.hid (TX10.out.later bw11)
  have TY11 := Lib.hid (TY10.out.later bw11)
  have HS11 := Lib.hid (HS10.out.later bw11)
  have HB11 := Lib.hid (HB10.out.trans (bw11.mono HB10.out.size))
  clear hw11 bw11 H10 HLA10 HLB10 TF10 TX10 TY10 HS10 HB10
  go_wp2_with (fail)
  have N12 : C2 (w11.alloc (.cells #[.int .i64 s1, .int .i64 s2] 52)) w11.heap.size (.int .i64 s1) (.int .i64 s2) := C2.n1
  have bw12 : Below w11.heap.size w11 (w11.alloc (.cells #[.int .i64 s1, .int .i64 s2] 52)) := ba1
  generalize w11.alloc (.cells #[.int .i64 s1, .int .i64 s2] 52) = w12 at *
  have TS12 := Lib.hid N12
  have H12 := Lib.hid (H11.out.later bw12)
  have HLA12 := Lib.hid (HLA11.out.later bw12)
  have HLB12 := Lib.hid (HLB11.out.later bw12)
  have TF12 := Lib.hid (TF11.out.later bw12)
  have TX12 := Lib.hid (TX11.out.later bw12)
  have TY12 := Lib.hid (TY11.out.later bw12)
  have HS12 := Lib.hid (HS11.out.later bw12)
  have HB12 := Lib.hid (HB11.out.trans (bw12.mono HB11.out.size))
  clear bw12 N12 HB11 H11 HLA11 HLB11 TF11 TX11 TY11 HS11
  obtain ⟨ts12_0, ts12_1, ts12_2, ts12_3⟩ := TS12.out
  obtain ⟨tx12_0, tx12_1, tx12_2, tx12_3⟩ := TX12.out
  obtain ⟨ty12_0, ty12_1, ty12_2, ty12_3⟩ := TY12.out
  have kc := @Tail.cell_re
  go_wp2_with (fail)
  refine Tail.region_below (by kernel_rfl) (by kernel_rfl) ?_
  repeat (go_big_quiet_step (first | (with_reducible exact Calls.regrown_of (cS _))))
  refine wpQuiet_nil ?_
  intro w13 hw13
  clear ts12_0 ts12_1 ts12_2 ts12_3 tx12_0 tx12_1 tx12_2 tx12_3 ty12_0 ty12_1 ty12_2 ty12_3
  have H13 := Lib.hid (H12.out.later hw13)
  have HLA13 := Lib.hid (HLA12.out.later hw13)
  have HLB13 := Lib.hid (HLB12.out.later hw13)
  have TF13 := Lib.hid (TF12.out.later hw13)
  have TX13 := Lib.hid (TX12.out.later hw13)
  have TY13 := Lib.hid (TY12.out.later hw13)
  have HS13 := Lib.hid (HS12.out.later hw13)
  have TS13 := Lib.hid (TS12.out.later hw13)
  have HB13 := Lib.hid (HB12.out.trans (hw13.mono HB12.out.size))
  clear kc hw13 HB12 H12 HLA12 HLB12 TF12 TX12 TY12 HS12 TS12
  clear TS13
  clear HS13
  clear TX13
  clear TY13
  go_wp2
  have BZ := HB13.out
  go_loopw [21, 22, 23, 24, 25, 26, 27] (fun q _ _ _ _ _ _ wr => ∃ k : Nat, k ≤ l.length ∧ q = .int .i64 k ∧ Hid (FW wr w.heap.size a b c (.slice fo L.length cap)) ∧ Below w.heap.size w wr) (fun q _ _ _ _ _ _ _ => l.length - (intOf q).toNat)
  case atStart => exact ⟨0, by omega, rfl, TF13, BZ⟩
  case round =>
    obtain ⟨k, hk, rfl, hf, hb⟩ := hrel
    clear BZ TF13 HB13 H13 HLA13 HLB13
    have hbs := hb.size
    by_cases hlt : k < l.length
    · have i1 : (k : Int) < (l.length : Int) := by omega
      have hTr := OA.out.later hb
      obtain ⟨pb, po, rfl, x0, x1, hpx⟩ := hTr.at_ hlt
      have HPX := Lib.hid hpx
      have xl := World.block_lt_of_cell? wr _ x0
      have hO := OM.out.later hb
      have HO := Lib.hid hO
      obtain ⟨t1, t2, rq, q1, q2, M, hT, hSq, hc⟩ := (HLo.out k hlt).f
      have kT := hT.ex
      clear hT hTr hpx hO
      generalize l[k] = e at *
      obtain ⟨ec, ep, ea, ek⟩ := e
      simp only at x0 x1 kT hSq HPX
      have HC := Lib.hid hc
      clear hc x0
      obtain ⟨f0, f1, f2, f3, ff, fl⟩ := hf.out
      have K5 : Hid (∀ w' : World, Below wr.heap.size wr w' → (w'.cell? ⟨w.heap.size, 0, none⟩ = some (.int .i64 a) ∧ w'.cell? ⟨w.heap.size, 1, none⟩ = some (.int .i64 b) ∧ w'.cell? ⟨w.heap.size, 2, none⟩ = some (.int .i64 c) ∧ w'.cell? ⟨w.heap.size, 3, none⟩ = some (.slice fo L.length cap) ∧ w'.cell? ⟨pb, po + k * 2 + 1, none⟩ = some (.slice ea ep.length ek))) := Lib.hid (fun w' h => ⟨held_belowT h f0, held_belowT h f1, held_belowT h f2, held_belowT h f3, held_belowT h x1⟩)
      go_wp2
      go_region_held3 (fun w' => w'.cell? ⟨w.heap.size, 0, none⟩ = some (.int .i64 a) ∧ w'.cell? ⟨w.heap.size, 1, none⟩ = some (.int .i64 b) ∧ w'.cell? ⟨w.heap.size, 2, none⟩ = some (.int .i64 c) ∧ w'.cell? ⟨w.heap.size, 3, none⟩ = some (.slice fo L.length cap) ∧ w'.cell? ⟨pb, po + k * 2 + 1, none⟩ = some (.slice ea ep.length ek))
        (first
          | go_keep
          | (exact K5.out _ (Below.refl _ _))
          | (exact K5.out _ ba1)
          | (exact K5.out _ (belD hw1))
          | (exact K5.out _ (belA hw1))
          | (exact K5.out _ (bel1 hw1))
          | (exact K5.out _ (belS (belA hw1)))
          | (exact K5.out _ (belS (bel1 hw1)))
          | (exact K5.out _ ((belD hw1).trans (ba1.mono (belD hw1).size))))
        (first
          | ((with_reducible refine (kT _ _ _ (HO.out.later (Below.refl _ _)) (HPX.out.later (Below.refl _ _))).mono ?_); rintro e w1 ⟨rfl, hw1⟩; have hc1 := Tail.cells hw1)
          | ((with_reducible refine (kT _ _ _ (HO.out.later (Below.drew (Below.refl _ _))) (HPX.out.later (Below.drew (Below.refl _ _)))).mono ?_); rintro e w1 ⟨rfl, hw1⟩; have hc1 := Tail.cells hw1)
          | ((with_reducible refine (kT _ _ _ (HO.out.later ba1) (HPX.out.later ba1)).mono ?_); rintro e w1 ⟨rfl, hw1⟩; have hc1 := Tail.cells hw1)
          | ((with_reducible refine (kT _ _ _ (HO.out.later (by repeat (first | (with_reducible exact Below.refl _ _) | (with_reducible refine Below.setCell ?_ ?_ _) | (with_reducible refine Below.drew ?_) | (with_reducible refine Below.alloc ?_ ?_ _) | omega | (simp <;> omega)))) (HPX.out.later (by repeat (first | (with_reducible exact Below.refl _ _) | (with_reducible refine Below.setCell ?_ ?_ _) | (with_reducible refine Below.drew ?_) | (with_reducible refine Below.alloc ?_ ?_ _) | omega | (simp <;> omega))))).mono ?_); rintro e w1 ⟨rfl, hw1⟩; have hc1 := Tail.cells hw1))
      · have b1 : Below wr.heap.size wr w1 := ⟨hw1.os, hw1.tape, hw1.output, hw1.size, hw1.block⟩
        have b5 : Below wr.heap.size wr (w1.alloc (.cells #[.int .i64 t1, .int .i64 t2] 52)) := b1.trans (ba1.mono b1.size)
        have R5 : RB (w1.alloc (.cells #[.int .i64 t1, .int .i64 t2] 52)) w1.heap.size (t1, t2) := ⟨by simp [go_sem], by simp [go_sem], fun j => by simp [go_sem], by simp⟩
        clear hw1 hc1 b1
        generalize w1.alloc (.cells #[.int .i64 t1, .int .i64 t2] 52) = w5 at *
        generalize w1.heap.size = bb at *
        have X1 := (b5.cell xl).trans x1
        clear f0 f1 f2 f3 ff fl kT x1
        go_wp2_with (fail)
        have hf5 := hf.out.later b5
        have b5w : Below w.heap.size w w5 := hb.trans (b5.mono hbs)
        refine (hSq _ _ _ (HPX.out.later b5)).mono ?_
        rintro e w6 ⟨⟨a6, c6, es6, rfl, hE, hes6, -, -⟩, hw6⟩
        have R6 := R5.later hw6
        have hf6 := Lib.hid (hf5.later hw6)
        have b6 := b5w.trans (hw6.mono b5w.size)
        have HE := Lib.hid hE
        clear X1 hf5 b5w R5 b5 hw6 hSq hE
        rcases HC.out with hq | ⟨rfl, hV, hfit⟩
        · have q3 : (rq != 0) = true := by simpa using hq
          go_wp2
          exact ⟨⟨k + 1, by omega, by go_num, hf6, b6⟩, by simp [intOf]; omega⟩
        · have kV := hV.ex
          have HF := Lib.hid hfit
          clear hV hfit
          obtain ⟨g0, g1, g2, g3, gf, gl⟩ := hf6.out
          go_wp2_with (fail)
          refine (kV _ _ _ _ hes6 (OM.out.later b6) HE.out).mono ?_
          rintro e w7 ⟨rfl, hw7⟩
          have R7 := R6.later hw7
          have hf7 := hf6.out.later hw7
          have b7 := b6.trans (hw7.mono b6.size)
          have R8 := R7.later (ba1 (o := .cells #[.int .i64 q1, .int .i64 q2] 52))
          have hf8 := Lib.hid (hf7.later (ba1 (o := .cells #[.int .i64 q1, .int .i64 q2] 52)))
          have b8 := b7.trans ((ba1 (o := .cells #[.int .i64 q1, .int .i64 q2] 52)).mono b7.size)
          have N8 : C2 (w7.alloc (.cells #[.int .i64 q1, .int .i64 q2] 52)) w7.heap.size (.int .i64 q1) (.int .i64 q2) := C2.n1
          clear g0 g1 g2 g3 gf gl kV hw7 R6 R7 hf7 hf6 b6 b7 HE
          have kc := @Tail.cell_re
          rcases HF.out with hno | ⟨hyes, w8, w9, cR⟩
          · go_wp2
            generalize w7.alloc (.cells #[.int .i64 q1, .int .i64 q2] 52) = w8 at *
            obtain ⟨r0, r1, rf, rlt⟩ := R8
            obtain ⟨n0, n1, nf, nlt⟩ := N8
            refine Tail.region_below (by kernel_rfl) (by kernel_rfl) ?_
            repeat (go_big_quiet_step (first | (with_reducible exact Calls.regrown_of (fits_no _ _ _ hno))))
            refine wpQuiet_nil ?_
            intro w9 hw9
            have hf9 := Lib.hid (hf8.out.later hw9)
            have b9 := b8.trans (hw9.mono b8.size)
            clear r0 r1 rf rlt n0 n1 nf nlt hw9
            go_wp2
            exact ⟨⟨k + 1, by omega, by go_num, hf9, b9⟩, by simp [intOf]; omega⟩
          · go_wp2
            generalize w7.alloc (.cells #[.int .i64 q1, .int .i64 q2] 52) = w8' at *
            obtain ⟨r0, r1, rf, rlt⟩ := R8
            obtain ⟨n0, n1, nf, nlt⟩ := N8
            refine Tail.region_below (by kernel_rfl) (by kernel_rfl) ?_
            repeat (go_big_quiet_step (first | (with_reducible exact Calls.regrown_of (fits_yes _ _ _ hyes)) | (with_reducible exact Calls.regrown_of (cR _))))
            refine wpQuiet_nil ?_
            intro w9' hw9
            have hf9 := Lib.hid (hf8.out.later hw9)
            have b9 := b8.trans (hw9.mono b8.size)
            clear r0 r1 rf rlt n0 n1 nf nlt hw9
            go_wp2
            exact ⟨⟨k + 1, by omega, by go_num, hf9, b9⟩, by simp [intOf]; omega⟩
      · have R4 : RB w1 wr.heap.size (0, 0) := ⟨(hw1.cell (p := ⟨wr.heap.size, 0, none⟩) (by simp)).trans (by simp [go_sem]), (hw1.cell (p := ⟨wr.heap.size, 1, none⟩) (by simp)).trans (by simp [go_sem]), fun j => (hw1.frozen (p := ⟨wr.heap.size, j, none⟩) (by simp)).trans (by simp [go_sem]), Nat.lt_of_lt_of_le (by simp) hw1.size⟩
        have R5 := R4.put (t1, t2)
        have b5 : Below wr.heap.size wr ((w1.setCell ⟨wr.heap.size, 0, none⟩ (.int .i64 t1)).setCell ⟨wr.heap.size, 1, none⟩ (.int .i64 t2)) := by repeat (first | (with_reducible exact Below.refl _ _) | (with_reducible refine Below.setCell ?_ ?_ _) | (with_reducible refine Below.drew ?_) | (with_reducible refine Below.alloc ?_ ?_ _) | (with_reducible refine Below.trans ?_ (Below.mono hw1 ?_)) | (with_reducible exact hw1.size) | omega | (simp <;> omega) | (simp <;> (have s := hw1.size; omega)) | (have s0 := hw1.size; (try simp at s0); (try simp); omega))
        clear hw1 hc1 R4
        generalize (w1.setCell ⟨wr.heap.size, 0, none⟩ (.int .i64 t1)).setCell ⟨wr.heap.size, 1, none⟩ (.int .i64 t2) = w5 at *
        have X1 := (b5.cell xl).trans x1
        clear f0 f1 f2 f3 ff fl kT x1
        go_wp2_with (fail)
        have hf5 := hf.out.later b5
        have b5w : Below w.heap.size w w5 := hb.trans (b5.mono hbs)
        refine (hSq _ _ _ (HPX.out.later b5)).mono ?_
        rintro e w6 ⟨⟨a6, c6, es6, rfl, hE, hes6, -, -⟩, hw6⟩
        have R6 := R5.later hw6
        have hf6 := Lib.hid (hf5.later hw6)
        have b6 := b5w.trans (hw6.mono b5w.size)
        have HE := Lib.hid hE
        clear X1 hf5 b5w R5 b5 hw6 hSq hE
        rcases HC.out with hq | ⟨rfl, hV, hfit⟩
        · have q3 : (rq != 0) = true := by simpa using hq
          go_wp2
          exact ⟨⟨k + 1, by omega, by go_num, hf6, b6⟩, by simp [intOf]; omega⟩
        · have kV := hV.ex
          have HF := Lib.hid hfit
          clear hV hfit
          obtain ⟨g0, g1, g2, g3, gf, gl⟩ := hf6.out
          go_wp2_with (fail)
          refine (kV _ _ _ _ hes6 (OM.out.later b6) HE.out).mono ?_
          rintro e w7 ⟨rfl, hw7⟩
          have R7 := R6.later hw7
          have hf7 := hf6.out.later hw7
          have b7 := b6.trans (hw7.mono b6.size)
          have R8 := R7.later (ba1 (o := .cells #[.int .i64 q1, .int .i64 q2] 52))
          have hf8 := Lib.hid (hf7.later (ba1 (o := .cells #[.int .i64 q1, .int .i64 q2] 52)))
          have b8 := b7.trans ((ba1 (o := .cells #[.int .i64 q1, .int .i64 q2] 52)).mono b7.size)
          have N8 : C2 (w7.alloc (.cells #[.int .i64 q1, .int .i64 q2] 52)) w7.heap.size (.int .i64 q1) (.int .i64 q2) := C2.n1
          clear g0 g1 g2 g3 gf gl kV hw7 R6 R7 hf7 hf6 b6 b7 HE
          have kc := @Tail.cell_re
          rcases HF.out with hno | ⟨hyes, w8, w9, cR⟩
          · go_wp2
            generalize w7.alloc (.cells #[.int .i64 q1, .int .i64 q2] 52) = w8 at *
            obtain ⟨r0, r1, rf, rlt⟩ := R8
            obtain ⟨n0, n1, nf, nlt⟩ := N8
            refine Tail.region_below (by kernel_rfl) (by kernel_rfl) ?_
            repeat (go_big_quiet_step (first | (with_reducible exact Calls.regrown_of (fits_no _ _ _ hno))))
            refine wpQuiet_nil ?_
            intro w9 hw9
            have hf9 := Lib.hid (hf8.out.later hw9)
            have b9 := b8.trans (hw9.mono b8.size)
            clear r0 r1 rf rlt n0 n1 nf nlt hw9
            go_wp2
            exact ⟨⟨k + 1, by omega, by go_num, hf9, b9⟩, by simp [intOf]; omega⟩
          · go_wp2
            generalize w7.alloc (.cells #[.int .i64 q1, .int .i64 q2] 52) = w8' at *
            obtain ⟨r0, r1, rf, rlt⟩ := R8
            obtain ⟨n0, n1, nf, nlt⟩ := N8
            refine Tail.region_below (by kernel_rfl) (by kernel_rfl) ?_
            repeat (go_big_quiet_step (first | (with_reducible exact Calls.regrown_of (fits_yes _ _ _ hyes)) | (with_reducible exact Calls.regrown_of (cR _))))
            refine wpQuiet_nil ?_
            intro w9' hw9
            have hf9 := Lib.hid (hf8.out.later hw9)
            have b9 := b8.trans (hw9.mono b8.size)
            clear r0 r1 rf rlt n0 n1 nf nlt hw9
            go_wp2
            exact ⟨⟨k + 1, by omega, by go_num, hf9, b9⟩, by simp [intOf]; omega⟩
    · obtain rfl : k = l.length := by omega
      go_wp2
      go_ret
      exact ⟨rfl, hb⟩

set_option maxHeartbeats 6400000 in
theorem tlo_00 (a b c x1 x2 e y1 y2 g : Int) (fo lo mo : Option Addr) (cap lc mc : Nat) (L : List Q) (l m : List E) (w : World) (hm : LiesO w fo L) (hla : Trs w lo l) (hlb : Trs w mo m) (P S : List Trm) (rp ra p1 p2 s1 s2 : Int)
    (hLg : ∀ W : World, Calls Try.prog 30 #[.agg #[.int .i64 a, .int .i64 b, .int .i64 c, .slice fo L.length cap]] W fun e w' => e = .returned (.bool false) ∧ Below W.heap.size W w')
    (hMa : ∀ W : World, Trs W lo l → Calls Try.prog 15 #[.slice lo l.length lc] W fun e w' => e = .returned (.bool false) ∧ Below W.heap.size W w')
    (hMb : ∀ W : World, Trs W mo m → Calls Try.prog 15 #[.slice mo m.length mc] W fun e w' => e = .returned (.bool false) ∧ Below W.heap.size W w')
    (cX : VaN a b c 0 fo cap L (tm l) x1 x2 e)
    (cY : VaN a b c 0 fo cap L (tm m) y1 y2 g)
    (e1 : e = 0)
    (e2 : g = 0)
    (fX : ∀ W : World, Calls Try.prog 33 #[.agg #[.int .i64 x1, .int .i64 x2]] W fun e w' => e = .returned (.bool true) ∧ Below W.heap.size W w')
    (fY : ∀ W : World, Calls Try.prog 33 #[.agg #[.int .i64 y1, .int .i64 y2]] W fun e w' => e = .returned (.bool true) ∧ Below W.heap.size W w')
    (cT : ∀ W : World, Trs W lo l → Trs W mo m → Calls Try.prog 34 #[.slice lo l.length lc, .slice mo m.length mc] W fun e w' => Ans P rp e w' ∧ Below W.heap.size W w')
    (r1 : rp ≠ 0)
    (cA : ∀ W : World, Trs W lo l → Trs W mo m → Calls Try.prog 22 #[.slice lo l.length lc, .slice mo m.length mc] W fun e w' => Ans S ra e w' ∧ Below W.heap.size W w')
    (r2 : ra ≠ 0)
    (hLoop : ∀ (k : Nat) (h : k < l.length), LoopF a b c fo cap L l[k].p)
    (h40 : l.length ≤ 1000)
    : Calls Try.prog 9 #[.agg #[.int .i64 a, .int .i64 b, .int .i64 c, .slice fo L.length cap], .slice lo l.length lc, .slice mo m.length mc] w fun e w' => e = .returned (.bool true) ∧ Below w.heap.size w w' := by
  have sq := sqK
  have H0 := Lib.hid hm
  have HLA0 := Lib.hid hla
  have HLB0 := Lib.hid hlb
  clear hm hla hlb
  have k1 := cX.ex
  have k2 := cY.ex
  clear cX cY
  subst e1 e2
  have q1 : (rp == 0) = false := by simpa using r1
  clear r1
  have q2 : (ra == 0) = false := by simpa using r2
  clear r2
  have HLo := Lib.hid hLoop
  clear hLoop
  have OM := H0
  have OA := HLA0
  go_enter Try.func9, Try.ntmps9
  go_wp2_with (fail)
  refine (sq _ _ lit4).mono ?_
  rintro e w1 ⟨⟨a1, c1, rfl⟩, hw1⟩
  have bw1 : Below w.heap.size w w1 := bel2 hw1
  have TF1 := Lib.hid (FW.n2a.later hw1)
  have H1 := Lib.hid (H0.out.later bw1)
  have HLA1 := Lib.hid (HLA0.out.later bw1)
  have HLB1 := Lib.hid (HLB0.out.later bw1)
  have HB1 := Lib.hid bw1
  clear hw1 bw1 H0 HLA0 HLB0
  obtain ⟨tf1_0, tf1_1, tf1_2, tf1_3, tf1_4, tf1_5⟩ := TF1.out
  clear sq
  go_wp2_with (fail)
  refine (hLg _).mono ?_
  rintro e w2 ⟨rfl, hw2⟩
  clear tf1_0 tf1_1 tf1_2 tf1_3 tf1_4 tf1_5
  have bw2 : Below w1.heap.size w1 w2 := hw2
  have H2 := Lib.hid (H1.out.later bw2)
  have HLA2 := Lib.hid (HLA1.out.later bw2)
  have HLB2 := Lib.hid (HLB1.out.later bw2)
  have TF2 := Lib.hid (TF1.out.later bw2)
  have HB2 := Lib.hid (HB1.out.trans (bw2.mono HB1.out.size))
  clear hw2 bw2 H1 HLA1 HLB1 TF1 HB1
  go_wp2_with (fail)
  refine (hMa _ (HLA2.out)).mono ?_
  rintro e w3 ⟨rfl, hw3⟩
  have bw3 : Below w2.heap.size w2 w3 := hw3
  have H3 := Lib.hid (H2.out.later bw3)
  have HLA3 := Lib.hid (HLA2.out.later bw3)
  have HLB3 := Lib.hid (HLB2.out.later bw3)
  have TF3 := Lib.hid (TF2.out.later bw3)
  have HB3 := Lib.hid (HB2.out.trans (bw3.mono HB2.out.size))
  clear hw3 bw3 H2 HLA2 HLB2 TF2 HB2
  go_wp2_with (fail)
  refine (hMb _ (HLB3.out)).mono ?_
  rintro e w4 ⟨rfl, hw4⟩
  have bw4 : Below w3.heap.size w3 w4 := hw4
  have H4 := Lib.hid (H3.out.later bw4)
  have HLA4 := Lib.hid (HLA3.out.later bw4)
  have HLB4 := Lib.hid (HLB3.out.later bw4)
  have TF4 := Lib.hid (TF3.out.later bw4)
  have HB4 := Lib.hid (HB3.out.trans (bw4.mono HB3.out.size))
  clear hw4 bw4 H3 HLA3 HLB3 TF3 HB3
  obtain ⟨tf4_0, tf4_1, tf4_2, tf4_3, tf4_4, tf4_5⟩ := TF4.out
  go_wp2_with (fail)
  refine (k1 _ _ _ _ rfl (H4.out) (HLA4.out)).mono ?_
  rintro e w5 ⟨rfl, hw5⟩
  clear tf4_0 tf4_1 tf4_2 tf4_3 tf4_4 tf4_5
  have bw5 : Below w4.heap.size w4 w5 := hw5
  have H5 := Lib.hid (H4.out.later bw5)
  have HLA5 := Lib.hid (HLA4.out.later bw5)
  have HLB5 := Lib.hid (HLB4.out.later bw5)
  have TF5 := Lib.hid (TF4.out.later bw5)
  have HB5 := Lib.hid (HB4.out.trans (bw5.mono HB4.out.size))
  clear hw5 bw5 H4 HLA4 HLB4 TF4 HB4
  obtain ⟨tf5_0, tf5_1, tf5_2, tf5_3, tf5_4, tf5_5⟩ := TF5.out
  go_wp2_with (fail)
  refine (k2 _ _ _ _ rfl (H5.out.later ba1) (HLB5.out.later ba1)).mono ?_
  rintro e w6 ⟨rfl, hw6⟩
  clear tf5_0 tf5_1 tf5_2 tf5_3 tf5_4 tf5_5
  have bw6 : Below w5.heap.size w5 w6 := bel1 hw6
  have TX6 := Lib.hid (C2.n1.later hw6)
  have H6 := Lib.hid (H5.out.later bw6)
  have HLA6 := Lib.hid (HLA5.out.later bw6)
  have HLB6 := Lib.hid (HLB5.out.later bw6)
  have TF6 := Lib.hid (TF5.out.later bw6)
  have HB6 := Lib.hid (HB5.out.trans (bw6.mono HB5.out.size))
  clear hw6 bw6 H5 HLA5 HLB5 TF5 HB5
  obtain ⟨tx6_0, tx6_1, tx6_2, tx6_3⟩ := TX6.out
  go_wp2_with (fail)
  refine (fX _).mono ?_
  rintro e w7 ⟨rfl, hw7⟩
  clear tx6_0 tx6_1 tx6_2 tx6_3
  have bw7 : Below w6.heap.size w6 w7 := bel1 hw7
  have TY7 := Lib.hid (C2.n1.later hw7)
  have H7 := Lib.hid (H6.out.later bw7)
  have HLA7 := Lib.hid (HLA6.out.later bw7)
  have HLB7 := Lib.hid (HLB6.out.later bw7)
  have TF7 := Lib.hid (TF6.out.later bw7)
  have TX7 := Lib.hid (TX6.out.later bw7)
  have HB7 := Lib.hid (HB6.out.trans (bw7.mono HB6.out.size))
  clear hw7 bw7 H6 HLA6 HLB6 TF6 TX6 HB6
  obtain ⟨ty7_0, ty7_1, ty7_2, ty7_3⟩ := TY7.out
  go_wp2_with (fail)
  refine (fY _).mono ?_
  rintro e w8 ⟨rfl, hw8⟩
  clear ty7_0 ty7_1 ty7_2 ty7_3
  have bw8 : Below w7.heap.size w7 w8 := hw8
  have H8 := Lib.hid (H7.out.later bw8)
  have HLA8 := Lib.hid (HLA7.out.later bw8)
  have HLB8 := Lib.hid (HLB7.out.later bw8)
  have TF8 := Lib.hid (TF7.out.later bw8)
  have TX8 := Lib.hid (TX7.out.later bw8)
  have TY8 := Lib.hid (TY7.out.later bw8)
  have HB8 := Lib.hid (HB7.out.trans (bw8.mono HB7.out.size))
  clear hw8 bw8 H7 HLA7 HLB7 TF7 TX7 TY7 HB7
  go_wp2_with (fail)
  refine (cT _ (HLA8.out) (HLB8.out)).mono ?_
  rintro e w9 ⟨⟨a3, c3, es, rfl, hT, hes, -, -⟩, hw9⟩
  have bw9 : Below w8.heap.size w8 w9 := hw9
  have H9 := Lib.hid (H8.out.later bw9)
  have HLA9 := Lib.hid (HLA8.out.later bw9)
  have HLB9 := Lib.hid (HLB8.out.later bw9)
  have TF9 := Lib.hid (TF8.out.later bw9)
  have TX9 := Lib.hid (TX8.out.later bw9)
  have TY9 := Lib.hid (TY8.out.later bw9)
  have HB9 := Lib.hid (HB8.out.trans (bw9.mono HB8.out.size))
  have HP9 := Lib.hid hT
  clear hT
  clear hw9 bw9 H8 HLA8 HLB8 TF8 TX8 TY8 HB8
  obtain ⟨tf9_0, tf9_1, tf9_2, tf9_3, tf9_4, tf9_5⟩ := TF9.out
  clear HP9
  go_wp2_with (fail)
  refine (cA _ (HLA9.out) (HLB9.out)).mono ?_
  rintro e w10 ⟨⟨a4, c4, es2, rfl, hT2, hes2, -, -⟩, hw10⟩
  clear tf9_0 tf9_1 tf9_2 tf9_3 tf9_4 tf9_5
  have bw10 : Below w9.heap.size w9 w10 := hw10
  have H10 := Lib.hid (H9.out.later bw10)
  have HLA10 := Lib.hid (HLA9.out.later bw10)
  have HLB10 := Lib.hid (HLB9.out.later bw10)
  have TF10 := Lib.hid (TF9.out.later bw10)
  have TX10 := Lib.hid (TX9.out.later bw10)
  have TY10 := Lib.hid (TY9.out.later bw10)
  have HB10 := Lib.hid (HB9.out.trans (bw10.mono HB9.out.size))
  have HS10 := Lib.hid hT2
  clear hT2
  clear hw10 bw10 H9 HLA9 HLB9 TF9 TX9 TY9 HB9
  obtain ⟨tf10_0, tf10_1, tf10_2, tf10_3, tf10_4, tf10_5⟩ := TF10.out
  clear HS10
  clear TX10
  clear TY10
  clear tf10_0 tf10_1 tf10_2 tf10_3 tf10_4 tf10_5
  go_wp2
  have BZ := HB10.out
  go_loopw [21, 22, 23, 24, 25, 26, 27] (fun q _ _ _ _ _ _ wr => ∃ k : Nat, k ≤ l.length ∧ q = .int .i64 k ∧ Hid (FW wr w.heap.size a b c (.slice fo L.length cap)) ∧ Below w.heap.size w wr) (fun q _ _ _ _ _ _ _ => l.length - (intOf q).toNat)
  case atStart => exact ⟨0, by omega, rfl, TF10, BZ⟩
  case round =>
    obtain ⟨k, hk, rfl, hf, hb⟩ := hrel
    clear BZ TF10 HB10 H10 HLA10 HLB10
    have hbs := hb.size
    by_cases hlt : k < l.length
    · have i1 : (k : Int) < (l.length : Int) := by omega
      have hTr := OA.out.later hb
      obtain ⟨pb, po, rfl, x0, x1, hpx⟩ := hTr.at_ hlt
      have HPX := Lib.hid hpx
      have xl := World.block_lt_of_cell? wr _ x0
      have hO := OM.out.later hb
      have HO := Lib.hid hO
      obtain ⟨t1, t2, rq, q1, q2, M, hT, hSq, hc⟩ := (HLo.out k hlt).f
      have kT := hT.ex
      clear hT hTr hpx hO
      generalize l[k] = e at *
      obtain ⟨ec, ep, ea, ek⟩ := e
      simp only at x0 x1 kT hSq HPX
      have HC := Lib.hid hc
      clear hc x0
      obtain ⟨f0, f1, f2, f3, ff, fl⟩ := hf.out
      have K5 : Hid (∀ w' : World, Below wr.heap.size wr w' → (w'.cell? ⟨w.heap.size, 0, none⟩ = some (.int .i64 a) ∧ w'.cell? ⟨w.heap.size, 1, none⟩ = some (.int .i64 b) ∧ w'.cell? ⟨w.heap.size, 2, none⟩ = some (.int .i64 c) ∧ w'.cell? ⟨w.heap.size, 3, none⟩ = some (.slice fo L.length cap) ∧ w'.cell? ⟨pb, po + k * 2 + 1, none⟩ = some (.slice ea ep.length ek))) := Lib.hid (fun w' h => ⟨held_belowT h f0, held_belowT h f1, held_belowT h f2, held_belowT h f3, held_belowT h x1⟩)
      go_wp2
      go_region_held3 (fun w' => w'.cell? ⟨w.heap.size, 0, none⟩ = some (.int .i64 a) ∧ w'.cell? ⟨w.heap.size, 1, none⟩ = some (.int .i64 b) ∧ w'.cell? ⟨w.heap.size, 2, none⟩ = some (.int .i64 c) ∧ w'.cell? ⟨w.heap.size, 3, none⟩ = some (.slice fo L.length cap) ∧ w'.cell? ⟨pb, po + k * 2 + 1, none⟩ = some (.slice ea ep.length ek))
        (first
          | go_keep
          | (exact K5.out _ (Below.refl _ _))
          | (exact K5.out _ ba1)
          | (exact K5.out _ (belD hw1))
          | (exact K5.out _ (belA hw1))
          | (exact K5.out _ (bel1 hw1))
          | (exact K5.out _ (belS (belA hw1)))
          | (exact K5.out _ (belS (bel1 hw1)))
          | (exact K5.out _ ((belD hw1).trans (ba1.mono (belD hw1).size))))
        (first
          | ((with_reducible refine (kT _ _ _ (HO.out.later (Below.refl _ _)) (HPX.out.later (Below.refl _ _))).mono ?_); rintro e w1 ⟨rfl, hw1⟩; have hc1 := Tail.cells hw1)
          | ((with_reducible refine (kT _ _ _ (HO.out.later (Below.drew (Below.refl _ _))) (HPX.out.later (Below.drew (Below.refl _ _)))).mono ?_); rintro e w1 ⟨rfl, hw1⟩; have hc1 := Tail.cells hw1)
          | ((with_reducible refine (kT _ _ _ (HO.out.later ba1) (HPX.out.later ba1)).mono ?_); rintro e w1 ⟨rfl, hw1⟩; have hc1 := Tail.cells hw1)
          | ((with_reducible refine (kT _ _ _ (HO.out.later (by repeat (first | (with_reducible exact Below.refl _ _) | (with_reducible refine Below.setCell ?_ ?_ _) | (with_reducible refine Below.drew ?_) | (with_reducible refine Below.alloc ?_ ?_ _) | omega | (simp <;> omega)))) (HPX.out.later (by repeat (first | (with_reducible exact Below.refl _ _) | (with_reducible refine Below.setCell ?_ ?_ _) | (with_reducible refine Below.drew ?_) | (with_reducible refine Below.alloc ?_ ?_ _) | omega | (simp <;> omega))))).mono ?_); rintro e w1 ⟨rfl, hw1⟩; have hc1 := Tail.cells hw1))
      · have b1 : Below wr.heap.size wr w1 := ⟨hw1.os, hw1.tape, hw1.output, hw1.size, hw1.block⟩
        have b5 : Below wr.heap.size wr (w1.alloc (.cells #[.int .i64 t1, .int .i64 t2] 52)) := b1.trans (ba1.mono b1.size)
        have R5 : RB (w1.alloc (.cells #[.int .i64 t1, .int .i64 t2] 52)) w1.heap.size (t1, t2) := ⟨by simp [go_sem], by simp [go_sem], fun j => by simp [go_sem], by simp⟩
        clear hw1 hc1 b1
        generalize w1.alloc (.cells #[.int .i64 t1, .int .i64 t2] 52) = w5 at *
        generalize w1.heap.size = bb at *
        have X1 := (b5.cell xl).trans x1
        clear f0 f1 f2 f3 ff fl kT x1
        go_wp2_with (fail)
        have hf5 := hf.out.later b5
        have b5w : Below w.heap.size w w5 := hb.trans (b5.mono hbs)
        refine (hSq _ _ _ (HPX.out.later b5)).mono ?_
        rintro e w6 ⟨⟨a6, c6, es6, rfl, hE, hes6, -, -⟩, hw6⟩
        have R6 := R5.later hw6
        have hf6 := Lib.hid (hf5.later hw6)
        have b6 := b5w.trans (hw6.mono b5w.size)
        have HE := Lib.hid hE
        clear X1 hf5 b5w R5 b5 hw6 hSq hE
        rcases HC.out with hq | ⟨rfl, hV, hfit⟩
        · have q3 : (rq != 0) = true := by simpa using hq
          go_wp2
          exact ⟨⟨k + 1, by omega, by go_num, hf6, b6⟩, by simp [intOf]; omega⟩
        · have kV := hV.ex
          have HF := Lib.hid hfit
          clear hV hfit
          obtain ⟨g0, g1, g2, g3, gf, gl⟩ := hf6.out
          go_wp2_with (fail)
          refine (kV _ _ _ _ hes6 (OM.out.later b6) HE.out).mono ?_
          rintro e w7 ⟨rfl, hw7⟩
          have R7 := R6.later hw7
          have hf7 := hf6.out.later hw7
          have b7 := b6.trans (hw7.mono b6.size)
          have R8 := R7.later (ba1 (o := .cells #[.int .i64 q1, .int .i64 q2] 52))
          have hf8 := Lib.hid (hf7.later (ba1 (o := .cells #[.int .i64 q1, .int .i64 q2] 52)))
          have b8 := b7.trans ((ba1 (o := .cells #[.int .i64 q1, .int .i64 q2] 52)).mono b7.size)
          have N8 : C2 (w7.alloc (.cells #[.int .i64 q1, .int .i64 q2] 52)) w7.heap.size (.int .i64 q1) (.int .i64 q2) := C2.n1
          clear g0 g1 g2 g3 gf gl kV hw7 R6 R7 hf7 hf6 b6 b7 HE
          have kc := @Tail.cell_re
          rcases HF.out with hno | ⟨hyes, w8, w9, cR⟩
          · go_wp2
            generalize w7.alloc (.cells #[.int .i64 q1, .int .i64 q2] 52) = w8 at *
            obtain ⟨r0, r1, rf, rlt⟩ := R8
            obtain ⟨n0, n1, nf, nlt⟩ := N8
            refine Tail.region_below (by kernel_rfl) (by kernel_rfl) ?_
            repeat (go_big_quiet_step (first | (with_reducible exact Calls.regrown_of (fits_no _ _ _ hno))))
            refine wpQuiet_nil ?_
            intro w9 hw9
            have hf9 := Lib.hid (hf8.out.later hw9)
            have b9 := b8.trans (hw9.mono b8.size)
            clear r0 r1 rf rlt n0 n1 nf nlt hw9
            go_wp2
            exact ⟨⟨k + 1, by omega, by go_num, hf9, b9⟩, by simp [intOf]; omega⟩
          · go_wp2
            generalize w7.alloc (.cells #[.int .i64 q1, .int .i64 q2] 52) = w8' at *
            obtain ⟨r0, r1, rf, rlt⟩ := R8
            obtain ⟨n0, n1, nf, nlt⟩ := N8
            refine Tail.region_below (by kernel_rfl) (by kernel_rfl) ?_
            repeat (go_big_quiet_step (first | (with_reducible exact Calls.regrown_of (fits_yes _ _ _ hyes)) | (with_reducible exact Calls.regrown_of (cR _))))
            refine wpQuiet_nil ?_
            intro w9' hw9
            have hf9 := Lib.hid (hf8.out.later hw9)
            have b9 := b8.trans (hw9.mono b8.size)
            clear r0 r1 rf rlt n0 n1 nf nlt hw9
            go_wp2
            exact ⟨⟨k + 1, by omega, by go_num, hf9, b9⟩, by simp [intOf]; omega⟩
      · have R4 : RB w1 wr.heap.size (0, 0) := ⟨(hw1.cell (p := ⟨wr.heap.size, 0, none⟩) (by simp)).trans (by simp [go_sem]), (hw1.cell (p := ⟨wr.heap.size, 1, none⟩) (by simp)).trans (by simp [go_sem]), fun j => (hw1.frozen (p := ⟨wr.heap.size, j, none⟩) (by simp)).trans (by simp [go_sem]), Nat.lt_of_lt_of_le (by simp) hw1.size⟩
        have R5 := R4.put (t1, t2)
        have b5 : Below wr.heap.size wr ((w1.setCell ⟨wr.heap.size, 0, none⟩ (.int .i64 t1)).setCell ⟨wr.heap.size, 1, none⟩ (.int .i64 t2)) := by repeat (first | (with_reducible exact Below.refl _ _) | (with_reducible refine Below.setCell ?_ ?_ _) | (with_reducible refine Below.drew ?_) | (with_reducible refine Below.alloc ?_ ?_ _) | (with_reducible refine Below.trans ?_ (Below.mono hw1 ?_)) | (with_reducible exact hw1.size) | omega | (simp <;> omega) | (simp <;> (have s := hw1.size; omega)) | (have s0 := hw1.size; (try simp at s0); (try simp); omega))
        clear hw1 hc1 R4
        generalize (w1.setCell ⟨wr.heap.size, 0, none⟩ (.int .i64 t1)).setCell ⟨wr.heap.size, 1, none⟩ (.int .i64 t2) = w5 at *
        have X1 := (b5.cell xl).trans x1
        clear f0 f1 f2 f3 ff fl kT x1
        go_wp2_with (fail)
        have hf5 := hf.out.later b5
        have b5w : Below w.heap.size w w5 := hb.trans (b5.mono hbs)
        refine (hSq _ _ _ (HPX.out.later b5)).mono ?_
        rintro e w6 ⟨⟨a6, c6, es6, rfl, hE, hes6, -, -⟩, hw6⟩
        have R6 := R5.later hw6
        have hf6 := Lib.hid (hf5.later hw6)
        have b6 := b5w.trans (hw6.mono b5w.size)
        have HE := Lib.hid hE
        clear X1 hf5 b5w R5 b5 hw6 hSq hE
        rcases HC.out with hq | ⟨rfl, hV, hfit⟩
        · have q3 : (rq != 0) = true := by simpa using hq
          go_wp2
          exact ⟨⟨k + 1, by omega, by go_num, hf6, b6⟩, by simp [intOf]; omega⟩
        · have kV := hV.ex
          have HF := Lib.hid hfit
          clear hV hfit
          obtain ⟨g0, g1, g2, g3, gf, gl⟩ := hf6.out
          go_wp2_with (fail)
          refine (kV _ _ _ _ hes6 (OM.out.later b6) HE.out).mono ?_
          rintro e w7 ⟨rfl, hw7⟩
          have R7 := R6.later hw7
          have hf7 := hf6.out.later hw7
          have b7 := b6.trans (hw7.mono b6.size)
          have R8 := R7.later (ba1 (o := .cells #[.int .i64 q1, .int .i64 q2] 52))
          have hf8 := Lib.hid (hf7.later (ba1 (o := .cells #[.int .i64 q1, .int .i64 q2] 52)))
          have b8 := b7.trans ((ba1 (o := .cells #[.int .i64 q1, .int .i64 q2] 52)).mono b7.size)
          have N8 : C2 (w7.alloc (.cells #[.int .i64 q1, .int .i64 q2] 52)) w7.heap.size (.int .i64 q1) (.int .i64 q2) := C2.n1
          clear g0 g1 g2 g3 gf gl kV hw7 R6 R7 hf7 hf6 b6 b7 HE
          have kc := @Tail.cell_re
          rcases HF.out with hno | ⟨hyes, w8, w9, cR⟩
          · go_wp2
            generalize w7.alloc (.cells #[.int .i64 q1, .int .i64 q2] 52) = w8 at *
            obtain ⟨r0, r1, rf, rlt⟩ := R8
            obtain ⟨n0, n1, nf, nlt⟩ := N8
            refine Tail.region_below (by kernel_rfl) (by kernel_rfl) ?_
            repeat (go_big_quiet_step (first | (with_reducible exact Calls.regrown_of (fits_no _ _ _ hno))))
            refine wpQuiet_nil ?_
            intro w9 hw9
            have hf9 := Lib.hid (hf8.out.later hw9)
            have b9 := b8.trans (hw9.mono b8.size)
            clear r0 r1 rf rlt n0 n1 nf nlt hw9
            go_wp2
            exact ⟨⟨k + 1, by omega, by go_num, hf9, b9⟩, by simp [intOf]; omega⟩
          · go_wp2
            generalize w7.alloc (.cells #[.int .i64 q1, .int .i64 q2] 52) = w8' at *
            obtain ⟨r0, r1, rf, rlt⟩ := R8
            obtain ⟨n0, n1, nf, nlt⟩ := N8
            refine Tail.region_below (by kernel_rfl) (by kernel_rfl) ?_
            repeat (go_big_quiet_step (first | (with_reducible exact Calls.regrown_of (fits_yes _ _ _ hyes)) | (with_reducible exact Calls.regrown_of (cR _))))
            refine wpQuiet_nil ?_
            intro w9' hw9
            have hf9 := Lib.hid (hf8.out.later hw9)
            have b9 := b8.trans (hw9.mono b8.size)
            clear r0 r1 rf rlt n0 n1 nf nlt hw9
            go_wp2
            exact ⟨⟨k + 1, by omega, by go_num, hf9, b9⟩, by simp [intOf]; omega⟩
    · obtain rfl : k = l.length := by omega
      go_wp2
      go_ret
      exact ⟨rfl, hb⟩
theorem fit_mul {x y z t : Int} (h : Fits x y) (k : Fits z t) : (-1152921504606846976 ≤ x * z ∧ x * z ≤ 1152921504606846976) ∧ (-1152921504606846976 ≤ x * t ∧ x * t ≤ 1152921504606846976) ∧ (-1152921504606846976 ≤ z * y ∧ z * y ≤ 1152921504606846976) ∧ (1 ≤ y * t ∧ y * t ≤ 1152921504606846976) := by
  obtain ⟨h1, h2, h3, h4⟩ := h
  obtain ⟨k1, k2, k3, k4⟩ := k
  have e : (1073741824 : Int) * 1073741824 = 1152921504606846976 := by decide
  have a1 := cof_mul (x := x) (y := z) (m := 1073741824) (n := 1073741824) ⟨by omega, by omega⟩ ⟨by omega, by omega⟩
  have a2 := cof_mul (x := x) (y := t) (m := 1073741824) (n := 1073741824) ⟨by omega, by omega⟩ ⟨by omega, by omega⟩
  have a3 := cof_mul (x := z) (y := y) (m := 1073741824) (n := 1073741824) ⟨by omega, by omega⟩ ⟨by omega, by omega⟩
  have a4 := cof_mul (x := y) (y := t) (m := 1073741824) (n := 1073741824) ⟨by omega, by omega⟩ ⟨by omega, by omega⟩
  have a5 : 0 < y * t := Int.mul_pos (by omega) (by omega)
  rw [e] at a1 a2 a3 a4
  exact ⟨a1, a2, a3, by omega, a4.2⟩
theorem wr_in {x : Int} (h1 : -4611686018427387904 ≤ x) (h2 : x ≤ 4611686018427387904) : IntKind.i64.wrap x = x := IntWalk.i64_in _ (by omega)
theorem val_one {a b c s : Int} {p : List Int} (hs : ∀ t ∈ p, IsStep t) (h8 : p.length ≤ 8) (hc : en a b c s p = s) : Val a b c s [(1, p)] :=
  ⟨fun t ht => by rw [List.mem_singleton] at ht; rw [ht]; exact ⟨hs, h8⟩, fun t ht => by rw [List.mem_singleton] at ht; rw [ht]; exact hc, fun t ht => by rw [List.mem_singleton] at ht; rw [ht]; simp only; omega, by simp⟩
theorem pair_of {x y : Int} {r : Int × Int} (h : (x, y) = r) : x = r.1 ∧ y = r.2 := by rw [← h]; exact ⟨rfl, rfl⟩
/-- what a sum that has been reckoned has as value -/
theorem ans_val {a b c s : Int} {fo : Option Addr} {cap : Nat} {L : List Q} {w : World} (hL : LiesO w fo L) (hlen : L.length ≤ 1000000) (hF : Fl a b c L) (s0 : 0 ≤ s) (s1 : s < a * b * c) {R : List Trm} (h : Raw a b c s R) : ansR (plo R) ≠ 0 ∨ (ansR (plo R) = 0 ∧ ∃ x y, VaN a b c s fo cap L (ansN (plo R)) x y 0 ∧ (x, y) = valR a b c L s (ansN (plo R)) ∧ SK (Tp a b c L s) (ansN (plo R)) = SK (Tp a b c L s) R) := by
  by_cases hv : vT (plT (plo R)) = 0
  · right
    have e1 : ansR (plo R) = 0 := by unfold ansR; rw [if_pos hv]
    have e2 : ansN (plo R) = plT (plo R) := by unfold ansN; rw [if_pos hv]
    rw [e2]
    obtain ⟨hV, hS⟩ := val_plain hF s0 s1 h rfl hv
    have hok := vT_ok hv
    obtain ⟨x, y, r, v⟩ := value_N a b c s fo cap L (plT (plo R)) w hL hlen (by have := hok.1; omega) (fun t ht => by have := (hok.2 t ht).2.1; omega)
    have h0 := v.un hF s0 s1 hV
    subst h0
    exact ⟨e1, x, y, v, (v.ok rfl).2.2.2.2, hS⟩
  · left
    unfold ansR
    rw [if_neg hv]
    decide
theorem loop_f {a b c : Int} {fo : Option Addr} {cap : Nat} {L : List Q} {w : World} (hL : LiesO w fo L) (hlen : L.length ≤ 1000000) (hF : Fl a b c L) (s1 : 0 < a * b * c) {p : List Int} (hs : ∀ t ∈ p, IsStep t) (h8 : p.length ≤ 8) (hc : en a b c 0 p = 0) : LoopF a b c fo cap L p := by
  obtain ⟨t1, t2, r, hT⟩ := trace_N a b c 0 fo cap L p w hL hlen (by omega)
  have h0 := hT.un hF (Int.le_refl _) s1 hs h8 hc
  subst h0
  have htr := (hT.ok rfl).2.2.2.2.2.2
  have hV1 := val_one hs h8 hc
  have hR : Raw a b c 0 (rawP [(1, p)] [(1, p)]) := Val.mul hF.z (Int.le_refl _) s1 hV1 hV1
  have hpe := pe_zero h8 hs
  have hSq : ∀ (W : World) (ao : Option Addr) (pc : Nat), LiesOI W ao p → Calls Try.prog 26 #[.slice ao p.length pc] W fun e w' => Ans (ansN (plo (rawP [(1, p)] [(1, p)]))) (ansR (plo (rawP [(1, p)] [(1, p)]))) e w' ∧ Below W.heap.size W w' := fun W ao pc h => (Square_ok ao pc p W h hpe).mono fun e w' ⟨h1, hb⟩ => ⟨h1.ans, hb⟩
  rcases ans_val (cap := cap) hL hlen hF (Int.le_refl _) s1 hR with h | ⟨h, q1, q2, hv, hq, hS⟩
  · exact ⟨t1, t2, _, 0, 0, _, hT, hSq, .inl h⟩
  · refine ⟨t1, t2, _, q1, q2, _, hT, hSq, .inr ⟨h, hv, ?_⟩⟩
    by_cases hf : Fits t1 t2
    · refine .inr ⟨hf, ?_⟩
      obtain ⟨b1, -, -, b4⟩ := fit_mul hf hf
      have hm := valR_mul hF (Int.le_refl _) s1 hV1 hV1 hS
      rw [valR_one hF (Int.le_refl _) s1 hs h8, ← htr, ← hq] at hm
      refine ⟨wr_in (by omega) (by omega), wr_in (by omega) (by omega), fun W => ?_⟩
      have := refRatio_any (t1 * t1) (t2 * t2) W (by omega) (by omega)
      rw [show rat (t1 * t1) (t2 * t2) = (q1, q2) from hm] at this
      exact this
    · exact .inl hf
theorem topLoops_walk (a b c : Int) (fo : Option Addr) (L : List Q) (cap : Nat) (lo : Option Addr) (l : List E) (lc : Nat) (mo : Option Addr) (m : List E) (mc : Nat) (w : World) (hc : L.length ≤ maxLen) (hL : LiesO w fo L) (hl : l.length ≤ maxLen) (hpl : ∀ e ∈ l, e.p.length ≤ maxLen) (h : Trs w lo l) (hm : m.length ≤ maxLen) (hpm : ∀ e ∈ m, e.p.length ≤ maxLen) (h2 : Trs w mo m) : Calls Try.prog 9 #[.agg #[.int .i64 a, .int .i64 b, .int .i64 c, .slice fo L.length cap], .slice lo l.length lc, .slice mo m.length mc] w fun e w' => e = .returned (.bool true) ∧ Below w.heap.size w w' := by
  by_cases hn : 100 < L.length
  · exact tlo_long a b c 0 0 0 0 0 0 fo lo mo cap lc mc L l m w hL h h2 (fun W : World => long_any a b c fo cap L.length true W (.inr ⟨hn, rfl⟩))
  have hLg := fun W : World => long_any a b c fo cap L.length false W (.inl ⟨by omega, rfl⟩)
  by_cases hf : ¬ few l
  · exact tlo_ma a b c 0 0 0 0 0 0 fo lo mo cap lc mc L l m w hL h h2 hLg (fun W h => many_yes lo lc l W h hf hl hpl)
  have hf := Classical.not_not.1 hf
  have hMa := fun W h => many_no lo lc l W h hf
  by_cases hg : ¬ few m
  · exact tlo_mb a b c 0 0 0 0 0 0 fo lo mo cap lc mc L l m w hL h h2 hLg hMa (fun W h => many_yes mo mc m W h hg hm hpm)
  have hg := Classical.not_not.1 hg
  have hMb := fun W h => many_no mo mc m W h hg
  obtain ⟨f1, f2⟩ := few_big hf
  obtain ⟨g1, g2⟩ := few_big hg
  have hf1 := hf.1
  obtain ⟨x1, x2, e, cX⟩ := value_N a b c 0 fo cap L (tm l) w hL (by omega) (by rw [tm_len]; omega) (fun t ht => by
    obtain ⟨e, he, rfl⟩ := List.mem_map.1 ht
    exact f2 e he)
  obtain ⟨y1, y2, g, cY⟩ := value_N a b c 0 fo cap L (tm m) w hL (by omega) (by rw [tm_len]; omega) (fun t ht => by
    obtain ⟨e, he, rfl⟩ := List.mem_map.1 ht
    exact g2 e he)
  by_cases e1 : ¬ e = 0
  · exact tlo_e a b c x1 x2 e y1 y2 g fo lo mo cap lc mc L l m w hL h h2 hLg hMa hMb cX cY e1
  have e1 := Classical.not_not.1 e1
  by_cases e2 : ¬ g = 0
  · exact tlo_g a b c x1 x2 e y1 y2 g fo lo mo cap lc mc L l m w hL h h2 hLg hMa hMb cX cY e1 e2
  have e2 := Classical.not_not.1 e2
  by_cases hx : ¬ Fits x1 x2
  · exact tlo_fx a b c x1 x2 e y1 y2 g fo lo mo cap lc mc L l m w hL h h2 hLg hMa hMb cX cY e1 e2 (fun W => fits_no x1 x2 W hx)
  have hx := Classical.not_not.1 hx
  have fX := fun W => fits_yes x1 x2 W hx
  by_cases hy : ¬ Fits y1 y2
  · exact tlo_fy a b c x1 x2 e y1 y2 g fo lo mo cap lc mc L l m w hL h h2 hLg hMa hMb cX cY e1 e2 fX (fun W => fits_no y1 y2 W hy)
  have hy := Classical.not_not.1 hy
  have fY := fun W => fits_yes y1 y2 W hy
  obtain ⟨hF, s0, s1, hVa, hx'⟩ := cX.ok e1
  obtain ⟨-, -, -, hVb, hy'⟩ := cY.ok e2
  have va := val_vT hVa
  have vb := val_vT hVb
  obtain ⟨b1, b2, b3, b4⟩ := fit_mul hx hy
  have cT := fun W h1 h2 => (Times_ok lo mo lc mc l m W h1 h2 va vb).mono fun e w' ⟨h1, hb⟩ => And.intro h1.ans hb
  have cA := fun W h1 h2 => (Add_ok lo mo lc mc l m W h1 h2 va vb).mono fun e w' ⟨h1, hb⟩ => And.intro h1.ans hb
  have hRt : Raw a b c 0 (rawP (tm l) (tm m)) := Val.mul hF.z s0 s1 hVa hVb
  have hRa : Raw a b c 0 (tm l ++ tm m) := hVa.app hVb
  have hLoop : ∀ (k : Nat) (h : k < l.length), LoopF a b c fo cap L l[k].p := fun k hk => by
    have hmem : (l[k].c, l[k].p) ∈ tm l := List.mem_map.2 ⟨l[k], List.getElem_mem hk, rfl⟩
    have hst := hVa.st _ hmem
    exact loop_f hL (by omega) hF s1 hst.1 hst.2 (hVa.cl _ hmem)
  have wT : ∀ (p1 p2 : Int), (p1, p2) = valR a b c L 0 (ansN (plo (rawP (tm l) (tm m)))) → SK (Tp a b c L 0) (ansN (plo (rawP (tm l) (tm m)))) = SK (Tp a b c L 0) (rawP (tm l) (tm m)) → ∀ W : World, Calls Try.prog 35 #[.int .i64 (x1 * y1), .int .i64 (x2 * y2)] W fun e w' => e = .returned (.agg #[.int .i64 p1, .int .i64 p2]) ∧ Below W.heap.size W w' := fun p1 p2 hp hS W => by
    have hmul := valR_mul hF s0 s1 hVa hVb hS
    rw [← hx', ← hy', ← hp] at hmul
    have := refRatio_any (x1 * y1) (x2 * y2) W (by omega) (by omega)
    rw [show rat (x1 * y1) (x2 * y2) = (p1, p2) from hmul] at this
    exact this
  have wA : ∀ (p1 p2 : Int), (p1, p2) = valR a b c L 0 (ansN (plo (tm l ++ tm m))) → SK (Tp a b c L 0) (ansN (plo (tm l ++ tm m))) = SK (Tp a b c L 0) (tm l ++ tm m) → ∀ W : World, Calls Try.prog 35 #[.int .i64 (x1 * y2 + y1 * x2), .int .i64 (x2 * y2)] W fun e w' => e = .returned (.agg #[.int .i64 p1, .int .i64 p2]) ∧ Below W.heap.size W w' := fun p1 p2 hp hS W => by
    have hadd := valR_add (A := tm l) (B := tm m) hS
    rw [← hx', ← hy', ← hp] at hadd
    have := refRatio_any (x1 * y2 + y1 * x2) (x2 * y2) W (by omega) (by omega)
    rw [show rat (x1 * y2 + y1 * x2) (x2 * y2) = (p1, p2) from hadd] at this
    exact this
  have w1 : IntKind.i64.wrap (x1 * y1) = x1 * y1 := wr_in (by omega) (by omega)
  have w2 : IntKind.i64.wrap (x2 * y2) = x2 * y2 := wr_in (by omega) (by omega)
  have w3 : IntKind.i64.wrap (x1 * y2) = x1 * y2 := wr_in (by omega) (by omega)
  have w4 : IntKind.i64.wrap (y1 * x2) = y1 * x2 := wr_in (by omega) (by omega)
  have w5 : IntKind.i64.wrap (x1 * y2 + y1 * x2) = x1 * y2 + y1 * x2 := wr_in (by omega) (by omega)
  rcases ans_val (cap := cap) hL (by omega) hF s0 s1 hRt with r1 | ⟨r1, p1, p2, vP, hp, hSp⟩
  · rcases ans_val (cap := cap) hL (by omega) hF s0 s1 hRa with r2 | ⟨r2, q1, q2, vS, hq, hSq⟩
    · exact tlo_00 a b c x1 x2 e y1 y2 g fo lo mo cap lc mc L l m w hL h h2 _ _ _ _ 0 0 0 0 hLg hMa hMb cX cY e1 e2 fX fY cT r1 cA r2 hLoop (by omega)
    · exact tlo_01 a b c x1 x2 e y1 y2 g fo lo mo cap lc mc L l m w hL h h2 _ _ _ _ 0 0 q1 q2 hLg hMa hMb cX cY e1 e2 fX fY cT r1 cA r2 vS (wA q1 q2 hq hSq) w3 w4 w5 w2 hLoop (by omega)
  · rcases ans_val (cap := cap) hL (by omega) hF s0 s1 hRa with r2 | ⟨r2, q1, q2, vS, hq, hSq⟩
    · exact tlo_10 a b c x1 x2 e y1 y2 g fo lo mo cap lc mc L l m w hL h h2 _ _ _ _ p1 p2 0 0 hLg hMa hMb cX cY e1 e2 fX fY cT r1 vP (wT p1 p2 hp hSp) w1 w2 cA r2 hLoop (by omega)
    · exact tlo_11 a b c x1 x2 e y1 y2 g fo lo mo cap lc mc L l m w hL h h2 _ _ _ _ p1 p2 q1 q2 hLg hMa hMb cX cY e1 e2 fX fY cT r1 vP (wT p1 p2 hp hSp) w1 w2 cA r2 vS (wA q1 q2 hq hSq) w3 w4 w5 w2 hLoop (by omega)

/-! ### The statement of the law TopLoops, out of its walk -/
set_option maxRecDepth 100000 in
theorem topLoops_lifted (os : Os) (started : os.Started) (H : Type) (enc : TypeId × Value → H) :
    ReturnsInHanded {} Try.checked os 9 .any (Rows.topLoopsSpec.pre6 enc Try.prog Try.f9 Rows.topLoopsRow.domain false) (Rows.topLoopsSpec.post enc Try.prog Try.f9 false true false false) := by
  refine returnsInHanded_of_change (C := Try.checked) own started (by kernel_rfl) Try.func9
    (ChangeSpec.witness6 (enc := enc) (C := Try.checked) false ⟨#[], #[.agg #[.int .i64 0, .int .i64 0, .int .i64 0, .slice none 0 0], .slice none 0 0, .slice none 0 0], []⟩ 8 (by kernel_rfl) (by kernel_rfl) (by kernel_rfl) (by kernel_rfl)) ?_
  intro W base args ds gs before hval0 hW hcnd _
  have hval : ∀ (j : Nat) t v, Try.f9.params[j]? = some t → args[j]? = some v → Value.okWide Try.prog W .any base t v := hval0
  have hW' := hW
  obtain ⟨p, q, hA0, hV, rfl, hfz, hnd⟩ := hW
  have hA : DataW.TrodAll enc Try.prog W 0 (fun _ => true) true Try.f9.params.toList args.toList ds p := hA0
  rw [Try.params9] at hA hval
  obtain ⟨v0, vs0, d0, ds0, p0, q0, hargs, rfl, rfl, h0, r0⟩ := trodAll_cons hA
  obtain ⟨v1, vs1, d1, ds1, p1, q1, rfl, rfl, rfl, h1, r1⟩ := trodAll_cons r0
  obtain ⟨v2, vs2, d2, ds2, p2, q2, rfl, rfl, rfl, h2, r2⟩ := trodAll_cons r1
  obtain ⟨rfl, rfl, rfl⟩ := trodAll_nil r2
  obtain rfl : args = #[v0, v1, v2] := by cases args; simp_all
  obtain ⟨rfl, rfl⟩ := trodVars_none hV
  have k0 := h0
  have lt0 : ∀ x ∈ p0, x.block < W.heap.size := by obtain ⟨m, hm⟩ := k0; exact DataW.trod_lt m _ _ _ hm
  obtain ⟨x0, y0, z0, ao0, L0, cap0, rfl, hl0, hm0⟩ := open_field (hval 0 47 v0 rfl rfl) h0
  have k1 := h1
  have lt1 : ∀ x ∈ p1, x.block < W.heap.size := by obtain ⟨m, hm⟩ := k1; exact DataW.trod_lt m _ _ _ hm
  obtain ⟨po1, l1, pc1, rfl, hkl1, hkp1, hkt1⟩ := open_terms (hval 1 29 v1 rfl rfl) h1
  have k2 := h2
  have lt2 : ∀ x ∈ p2, x.block < W.heap.size := by obtain ⟨m, hm⟩ := k2; exact DataW.trod_lt m _ _ _ hm
  obtain ⟨po2, l2, pc2, rfl, hkl2, hkp2, hkt2⟩ := open_terms (hval 2 29 v2 rfl rfl) h2
  clear hA0 hval0
  refine (topLoops_walk x0 y0 z0 ao0 L0 cap0 po1 l1 pc1 po2 l2 pc2 W hl0 hm0 hkl1 hkp1 hkt1 hkl2 hkp2 hkt2).mono fun e W' ⟨he, bel⟩ => ?_
  subst he
  exact ⟨_, rfl, _, _, _, [], _, [], hW', trodAll_mk1 (shut_bool Try.underlying4 _), (trodAll_cons_mk (Below.trod laidOut (by kernel_rfl) (of_decide_eq_true (by kernel_rfl)) k0 bel lt0) (trodAll_cons_mk (Below.trod laidOut (by kernel_rfl) (of_decide_eq_true (by kernel_rfl)) k1 bel lt1) (trodAll_cons_mk (Below.trod laidOut (by kernel_rfl) (of_decide_eq_true (by kernel_rfl)) k2 bel lt2) trodAll_mk0))), rfl, bel.frame _, fun h => by cases h⟩

theorem topLoops_jf9 : (Rows.topLoopsRow.inPlace == Try.prog.inPlace 9) = true := by kernel_rfl
theorem topLoops_jf10 : (Rows.topLoopsRow.unfollowed == Try.prog.unfollowed 9) = true := by kernel_rfl
theorem topLoops_jf11 : (Rows.topLoopsRow.recurses == Try.prog.recurses 9) = true := by kernel_rfl
theorem topLoops_jf12 : (Rows.topLoopsRow.named == Try.prog.varsNamed 9) = true := by kernel_rfl
theorem topLoops_facts : joinedFacts Try.prog 9 Try.f9 Rows.topLoopsSpec Rows.topLoopsRow = true := by
  unfold joinedFacts
  exact (band (band (band (band (band (band (band (band (band (band (band (band (band (band (band (band (band (band (band (band (band (band (band (band (band (band (band (band (band (band (band (by kernel_rfl) jf1) jf2) (by kernel_rfl)) (by kernel_rfl)) (by kernel_rfl)) jf6) (by kernel_rfl)) jf8) topLoops_jf9) topLoops_jf10) topLoops_jf11) topLoops_jf12) (by kernel_rfl)) (by kernel_rfl)) (by kernel_rfl)) (by kernel_rfl)) (by kernel_rfl)) (by kernel_rfl)) (by kernel_rfl)) (by kernel_rfl)) (by kernel_rfl)) (by kernel_rfl)) (by kernel_rfl)) jf24) jf25) jf26) jf27) (by kernel_rfl)) (by kernel_rfl)) (by kernel_rfl)) (by kernel_rfl))

theorem topLoops_over : Rows.topLoopsRow.holds Try.pinned (OpenSpec.ofChange Rows.topLoopsSpec) :=
  OpenClaim.holds_of_wide 9 Try.f9 rfl rfl rfl rfl rfl rfl rfl ⟨rfl, rfl, rfl, rfl, rfl⟩ rfl rfl rfl rfl rfl (by kernel_rfl) Try.func9 topLoops_facts
    (of_decide_eq_true (by kernel_rfl)) (by unfold Func.isWrapper; first | (rw [if_pos (by decide +kernel)]; kernel_rfl) | (rw [if_neg (by decide +kernel)]; exact ⟨rfl, rfl⟩))
    (fun os started H enc _ => topLoops_lifted os started H enc)

theorem topLoops_holds : Rows.TopLoopsSaid := topLoops_over
#print axioms topLoops_holds

end Go.Proofs.Ytjidbajcnomceaa
