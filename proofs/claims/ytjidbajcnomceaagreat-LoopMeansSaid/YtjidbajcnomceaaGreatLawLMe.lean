/- LoopMeans: the traces of all plaquettes, their mean and how many have each trace are the document's, for all fields; the counts give the mean.
Conditions: none. -/
import Derived.Test.YtjidbajcnomceaaGreatLqA
import Derived.Test.YtjidbajcnomceaaGreatLooC
import Derived.Test.YtjidbajcnomceaaGreatOpen4
import Derived.Test.YtjidbajcnomceaaGreatWlkA
import Derived.Test.YtjidbajcnomceaaGreatJFacts
namespace Go.Proofs.YtjidbajcnomceaaGreat
set_option linter.unusedVariables false
set_option linter.unusedSimpArgs false
set_option maxRecDepth 1000000
open Go.ChangeShapes Go.WideShapes Go.ChangeAt Go.RowKit
open Um Tm Lm Km

theorem infoI5 : ∃ i, Tryz.prog.info? 3 = some i := Option.isSome_iff_exists.1 (by kernel_rfl)
theorem cells5 : Tryz.prog.cellsOf 3 = 1 := by kernel_rfl
theorem eq5 (x0 x1 x2 x3 x4 : Int) (W : World) : Sem.run Tryz.prog (Op.equalIn 10000 41 (.agg #[.int .i64 x0, .int .i64 x1, .int .i64 x2, .int .i64 x3, .int .i64 x4]) (.agg #[.int .i64 x0, .int .i64 x1, .int .i64 x2, .int .i64 x3, .int .i64 x4])) W = .ok true W := by
  obtain ⟨i, hi⟩ := infoI5
  have h := run_equalIn_array W 9999 #[.int .i64 x0, .int .i64 x1, .int .i64 x2, .int .i64 x3, .int .i64 x4] #[.int .i64 x0, .int .i64 x1, .int .i64 x2, .int .i64 x3, .int .i64 x4] Tryz.underlying41 hi
  rw [show (10000 : Nat) = 9999 + 1 from rfl, h, cells5, show List.range 5 = [0, 1, 2, 3, 4] from rfl]
  simp [Op.eqItems, go_sem]

set_option maxHeartbeats 6400000 in
theorem loopMeans_core (a b c m1 m2 x0 x1 x2 x3 x4 e1 e3 : Int) (ao : Option Addr) (m cap : Nat) (L : List Q) (T : List (Int × Int)) (w : World) (hm : LiesO w ao L) (hT : T.length ≤ 1000)
    (b0 : 0 ≤ x0 ∧ x0 ≤ 100) (b1 : 0 ≤ x1 ∧ x1 ≤ 100) (b2 : 0 ≤ x2 ∧ x2 ≤ 100) (b3 : 0 ≤ x3 ∧ x3 ≤ 100) (b4 : 0 ≤ x4 ∧ x4 ≤ 100)
    (hE : e3 ≠ 0 ∨ e3 = 0 ∧ m1 * (x0 + x1 + x2 + x3 + x4) = (-2 * x0 - x1 + x3 + 2 * x4) * m2)
    (hLg : ∀ W : World, Calls Tryz.prog 8 #[.agg #[.int .i64 a, .int .i64 b, .int .i64 c, .slice ao m cap]] W fun e w' => e = .returned (.bool false) ∧ Below W.heap.size W w')
    (c1 : ∀ W : World, LiesO W ao L → Calls Tryz.prog 12 #[.agg #[.int .i64 a, .int .i64 b, .int .i64 c, .slice ao m cap]] W fun e w' => (∃ (to : Option Addr) (k : Nat), e = .returned (.tuple #[.slice to T.length k, .int .i64 e1]) ∧ LiesOI w' to (rl T)) ∧ Below W.heap.size W w')
    (c2 : ∀ W : World, LiesO W ao L → Calls Tryz.prog 13 #[.agg #[.int .i64 a, .int .i64 b, .int .i64 c, .slice ao m cap]] W fun e w' => (∃ (to : Option Addr) (k : Nat), e = .returned (.tuple #[.slice to T.length k, .int .i64 e1]) ∧ LiesOI w' to (rl T)) ∧ Below W.heap.size W w')
    (c3 : ∀ W : World, LiesO W ao L → Calls Tryz.prog 14 #[.agg #[.int .i64 a, .int .i64 b, .int .i64 c, .slice ao m cap]] W fun e w' => e = .returned (.tuple #[.agg #[.int .i64 m1, .int .i64 m2], .int .i64 e1]) ∧ Below W.heap.size W w')
    (c4 : ∀ W : World, LiesO W ao L → Calls Tryz.prog 15 #[.agg #[.int .i64 a, .int .i64 b, .int .i64 c, .slice ao m cap]] W fun e w' => e = .returned (.tuple #[.agg #[.int .i64 m1, .int .i64 m2], .int .i64 e1]) ∧ Below W.heap.size W w')
    (c5 : ∀ W : World, LiesO W ao L → Calls Tryz.prog 16 #[.agg #[.int .i64 a, .int .i64 b, .int .i64 c, .slice ao m cap]] W fun e w' => e = .returned (.tuple #[.agg #[.int .i64 x0, .int .i64 x1, .int .i64 x2, .int .i64 x3, .int .i64 x4], .int .i64 e3]) ∧ Below W.heap.size W w')
    (c6 : ∀ W : World, LiesO W ao L → Calls Tryz.prog 17 #[.agg #[.int .i64 a, .int .i64 b, .int .i64 c, .slice ao m cap]] W fun e w' => e = .returned (.tuple #[.agg #[.int .i64 x0, .int .i64 x1, .int .i64 x2, .int .i64 x3, .int .i64 x4], .int .i64 e3]) ∧ Below W.heap.size W w')
    : Calls Tryz.prog 4 #[.agg #[.int .i64 a, .int .i64 b, .int .i64 c, .slice ao m cap]] w fun e w' => e = .returned (.bool true) ∧ Below w.heap.size w w' := by
  have kn := known3_any
  have H0 := Lib.hid hm
  have HE := Lib.hid hE
  obtain ⟨b00, b01⟩ := b0
  obtain ⟨b10, b11⟩ := b1
  obtain ⟨b20, b21⟩ := b2
  obtain ⟨b30, b31⟩ := b3
  obtain ⟨b40, b41⟩ := b4
  clear hm hE
  have q5 := eq5 x0 x1 x2 x3 x4
  have n1 : (e1 != e1) = false := by simp
  have n3 : (e3 != e3) = false := by simp
  go_enter Tryz.func4, Tryz.ntmps4
  go_wp2_with (fail)
  refine (hLg _).mono ?_
  rintro e w1 ⟨rfl, hw1⟩
  have bw1 : Below w.heap.size w w1 := bel1 hw1
  have TF1 := Lib.hid (FW.n1.later hw1)
  have H1 := Lib.hid (H0.out.later bw1)
  have HB1 := Lib.hid bw1
  clear hw1 bw1 H0
  obtain ⟨tf1_0, tf1_1, tf1_2, tf1_3, tf1_4, tf1_5⟩ := TF1.out
  go_wp2_with (fail)
  refine (c1 _ (H1.out)).mono ?_
  rintro e w2 ⟨⟨to1, k1, rfl, hl1⟩, hw2⟩
  clear tf1_0 tf1_1 tf1_2 tf1_3 tf1_4 tf1_5
  have bw2 : Below w1.heap.size w1 w2 := hw2
  have H2 := Lib.hid (H1.out.later bw2)
  have TF2 := Lib.hid (TF1.out.later bw2)
  have HB2 := Lib.hid (HB1.out.trans (bw2.mono HB1.out.size))
  have LA2 := Lib.hid hl1
  clear hl1
  clear hw2 bw2 H1 TF1 HB1
  obtain ⟨tf2_0, tf2_1, tf2_2, tf2_3, tf2_4, tf2_5⟩ := TF2.out
  go_wp2_with (fail)
  refine (c2 _ (H2.out)).mono ?_
  rintro e w3 ⟨⟨to2, k2, rfl, hl2⟩, hw3⟩
  clear tf2_0 tf2_1 tf2_2 tf2_3 tf2_4 tf2_5
  have bw3 : Below w2.heap.size w2 w3 := hw3
  have H3 := Lib.hid (H2.out.later bw3)
  have TF3 := Lib.hid (TF2.out.later bw3)
  have LA3 := Lib.hid (LA2.out.later bw3)
  have HB3 := Lib.hid (HB2.out.trans (bw3.mono HB2.out.size))
  have LB3 := Lib.hid hl2
  clear hl2
  clear hw3 bw3 H2 TF2 LA2 HB2
  obtain ⟨tf3_0, tf3_1, tf3_2, tf3_3, tf3_4, tf3_5⟩ := TF3.out
  go_wp2_with (fail)
  refine (c3 _ (H3.out)).mono ?_
  rintro e w4 ⟨rfl, hw4⟩
  clear tf3_0 tf3_1 tf3_2 tf3_3 tf3_4 tf3_5
  have bw4 : Below w3.heap.size w3 w4 := hw4
  have H4 := Lib.hid (H3.out.later bw4)
  have TF4 := Lib.hid (TF3.out.later bw4)
  have LA4 := Lib.hid (LA3.out.later bw4)
  have LB4 := Lib.hid (LB3.out.later bw4)
  have HB4 := Lib.hid (HB3.out.trans (bw4.mono HB3.out.size))
  clear hw4 bw4 H3 TF3 LA3 LB3 HB3
  obtain ⟨tf4_0, tf4_1, tf4_2, tf4_3, tf4_4, tf4_5⟩ := TF4.out
  go_wp2_with (fail)
  refine (c4 _ (H4.out.later ba1)).mono ?_
  rintro e w5 ⟨rfl, hw5⟩
  clear tf4_0 tf4_1 tf4_2 tf4_3 tf4_4 tf4_5
  have bw5 : Below w4.heap.size w4 w5 := bel1 hw5
  have TM5 := Lib.hid (C2.n1.later hw5)
  have H5 := Lib.hid (H4.out.later bw5)
  have TF5 := Lib.hid (TF4.out.later bw5)
  have LA5 := Lib.hid (LA4.out.later bw5)
  have LB5 := Lib.hid (LB4.out.later bw5)
  have HB5 := Lib.hid (HB4.out.trans (bw5.mono HB4.out.size))
  clear hw5 bw5 H4 TF4 LA4 LB4 HB4
  obtain ⟨tf5_0, tf5_1, tf5_2, tf5_3, tf5_4, tf5_5⟩ := TF5.out
  go_wp2_with (fail)
  refine (c5 _ (H5.out.later ba1)).mono ?_
  rintro e w6 ⟨rfl, hw6⟩
  clear tf5_0 tf5_1 tf5_2 tf5_3 tf5_4 tf5_5
  have bw6 : Below w5.heap.size w5 w6 := bel1 hw6
  have TN6 := Lib.hid (C2.n1.later hw6)
  have H6 := Lib.hid (H5.out.later bw6)
  have TF6 := Lib.hid (TF5.out.later bw6)
  have LA6 := Lib.hid (LA5.out.later bw6)
  have LB6 := Lib.hid (LB5.out.later bw6)
  have TM6 := Lib.hid (TM5.out.later bw6)
  have HB6 := Lib.hid (HB5.out.trans (bw6.mono HB5.out.size))
  clear hw6 bw6 H5 TF5 LA5 LB5 TM5 HB5
  obtain ⟨tf6_0, tf6_1, tf6_2, tf6_3, tf6_4, tf6_5⟩ := TF6.out
  go_wp2_with (fail)
  refine (c6 _ (H6.out.later ba1)).mono ?_
  rintro e w7 ⟨rfl, hw7⟩
  clear tf6_0 tf6_1 tf6_2 tf6_3 tf6_4 tf6_5
  have bw7 : Below w6.heap.size w6 w7 := bel1 hw7
  have TH7 := Lib.hid (C5.n1.later hw7)
  have H7 := Lib.hid (H6.out.later bw7)
  have TF7 := Lib.hid (TF6.out.later bw7)
  have LA7 := Lib.hid (LA6.out.later bw7)
  have LB7 := Lib.hid (LB6.out.later bw7)
  have TM7 := Lib.hid (TM6.out.later bw7)
  have TN7 := Lib.hid (TN6.out.later bw7)
  have HB7 := Lib.hid (HB6.out.trans (bw7.mono HB6.out.size))
  clear hw7 bw7 H6 TF6 LA6 LB6 TM6 TN6 HB6
  obtain ⟨tm7_0, tm7_1, tm7_2, tm7_3⟩ := TM7.out
  obtain ⟨tn7_0, tn7_1, tn7_2, tn7_3⟩ := TN7.out
  obtain ⟨th7_0, th7_1, th7_2, th7_3, th7_4, th7_5, th7_6⟩ := TH7.out
  clear c1 c2 c3 c4 c5 c6 hLg TF7 TN7 H7
  have B8 := Lib.hid (HB7.out.trans (ba1.mono HB7.out.size) : Below w.heap.size w (w7.alloc (.cells #[.int .i64 x0, .int .i64 x1, .int .i64 x2, .int .i64 x3, .int .i64 x4] 41)))
  have LA8 := Lib.hid (LA7.out.later (ba1 (o := .cells #[.int .i64 x0, .int .i64 x1, .int .i64 x2, .int .i64 x3, .int .i64 x4] 41)))
  have LB8 := Lib.hid (LB7.out.later (ba1 (o := .cells #[.int .i64 x0, .int .i64 x1, .int .i64 x2, .int .i64 x3, .int .i64 x4] 41)))
  have TM8 := Lib.hid (TM7.out.later (ba1 (o := .cells #[.int .i64 x0, .int .i64 x1, .int .i64 x2, .int .i64 x3, .int .i64 x4] 41)))
  have TH8 := Lib.hid (TH7.out.later (ba1 (o := .cells #[.int .i64 x0, .int .i64 x1, .int .i64 x2, .int .i64 x3, .int .i64 x4] 41)))
  clear HB7 LA7 LB7 TM7 TH7
  go_wp2
  go_loopw [15] (fun q wr => ∃ k : Nat, k ≤ T.length ∧ q = .int .i64 k ∧ Hid (LiesOI wr to1 (rl T)) ∧ Hid (LiesOI wr to2 (rl T)) ∧ Hid (C2 wr w4.heap.size (.int .i64 m1) (.int .i64 m2)) ∧ Hid (C5 wr w6.heap.size (.int .i64 x0) (.int .i64 x1) (.int .i64 x2) (.int .i64 x3) (.int .i64 x4)) ∧ Below w.heap.size w wr) (fun q _ => T.length - (intOf q).toNat)

  case atStart => exact ⟨0, by omega, rfl, LA8, LB8, TM8, TH8, B8.out⟩
  case round =>
    obtain ⟨k, hk, rfl, la, lb, tm, th, hb⟩ := hrel
    clear LA8 LB8 TM8 TH8 B8
    by_cases hlt : k < T.length
    · have i1 : (k : Int) < (T.length : Int) := by omega
      obtain ⟨g1, o1, rfl, y0, y1⟩ := rl_at la.out hlt
      obtain ⟨g2, o2, rfl, z0, z1⟩ := rl_at lb.out hlt
      have kc := @Tail.cell_re
      have gl1 := World.block_lt_of_cell? wr _ y0
      have gl2 := World.block_lt_of_cell? wr _ z0
      generalize T[k] = r at *
      obtain ⟨r1, r2⟩ := r
      simp only at y0 y1 z0 z1
      go_wp2
      refine Tail.region_below (by kernel_rfl) (by kernel_rfl) ?_
      repeat (go_big_quiet_step (fail))
      refine wpQuiet_nil ?_
      intro w9 hw9
      have la9 := Lib.hid (la.out.later hw9)
      have lb9 := Lib.hid (lb.out.later hw9)
      have tm9 := Lib.hid (tm.out.later hw9)
      have th9 := Lib.hid (th.out.later hw9)
      have b9 := quiet_below hb hw9
      clear y0 y1 z0 z1 la lb tm th hw9 kc
      go_wp2
      exact ⟨⟨k + 1, by omega, by go_num, la9, lb9, tm9, th9, b9⟩, by simp [intOf]; omega⟩
    · obtain rfl : k = T.length := by omega
      have TM := tm
      obtain ⟨m10, m11, -, -⟩ := tm.out
      obtain ⟨h0, h1, h2, h3, h4, -, -⟩ := th.out
      clear la lb tm th
      go_wp2
      refine wp_loop_rounds 6 ?_
      iterate 5
        rw [rounds_succ]
        go_wp2
      rw [rounds_succ]
      rcases HE.out with he | ⟨rfl, he⟩
      · have q1 : (e3 != 0) = true := by simpa using he
        go_wp2_with (fail)
        refine (kn _).mono ?_
        rintro e w9 ⟨rfl, hw9⟩
        go_wp2
        go_ret
        exact ⟨rfl, quiet_below hb hw9⟩
      · go_wp2_with (fail)
        refine (kn _).mono ?_
        rintro e w9 ⟨rfl, hw9⟩
        go_wp2
        go_ret
        exact ⟨rfl, quiet_below hb hw9⟩

set_option maxHeartbeats 800000 in
theorem loopMeans_long (a b c : Int) (fo : Option Addr) (n cap : Nat) (w : World) (hn : 100 < n) : Calls Tryz.prog 4 #[.agg #[.int .i64 a, .int .i64 b, .int .i64 c, .slice fo n cap]] w fun e w' => e = .returned (.bool true) ∧ Below w.heap.size w w' := by
  have kn := known3_any
  have lg := fun W : World => long_any a b c fo cap n true W (.inr ⟨hn, rfl⟩)
  go_enter Tryz.func4, Tryz.ntmps4
  go_wp2_with (first | ((with_reducible refine (lg _).mono ?_); rintro e w1 ⟨rfl, hw1⟩; have hc1 := Tail.cells hw1; have s1 := hw1.size; (try simp at s1); (try have z1_0 : w.heap.size < w1.heap.size := (by omega)); clear s1) | ((with_reducible refine (kn _).mono ?_); rintro e w2 ⟨rfl, hw2⟩; have hc2 := Tail.cells hw2; have s2 := hw2.size; (try simp at s2); (try have z2_0 : w.heap.size < w2.heap.size := (by omega)); (try have z2_1 : w1.heap.size < w2.heap.size := (by omega)); clear s2))
  go_ret
  exact ⟨rfl, by repeat (first | (with_reducible exact Below.refl _ _) | (with_reducible refine Below.setCell ?_ ?_ _) | (with_reducible refine Below.drew ?_) | (with_reducible refine Below.alloc ?_ ?_ _) | (with_reducible refine Below.trans ?_ (Below.mono hw2 ?_)) | (with_reducible refine Below.trans ?_ (Below.mono hw1 ?_)) | (with_reducible exact hw2.size) | (with_reducible exact hw1.size) | omega | (simp <;> omega) | (simp <;> (have s := hw2.size; omega)) | (simp <;> (have s := hw1.size; omega)) | (have s0 := hw2.size; (try simp at s0); have s1 := hw1.size; (try simp at s1); (try simp); omega))⟩
theorem sm_IsS {L : List Q} {ns : List Int} (hq : smR L ns true) : ∀ x ∈ L, IsS x := fun x hx => by
  obtain ⟨i, hi, rfl⟩ := List.getElem_of_mem hx
  rcases hq with ⟨-, hq⟩ | ⟨h, -⟩
  · obtain ⟨m, -, hm⟩ := hq.2 i _ hi (List.getElem?_eq_getElem hi)
    rcases hm with ⟨k, hk, he, -⟩ | ⟨-, -, h⟩
    · exact ⟨k, hk, he⟩
    · cases h
  · cases h
theorem mean_hist {T : List (Int × Int)} (h : ∀ r ∈ T, r.2 = 1 ∧ -2 ≤ r.1 ∧ r.1 ≤ 2) : (meanR T).1 * (hcs (-2) T + hcs (-1) T + hcs 0 T + hcs 1 T + hcs 2 T) = (-2 * hcs (-2) T - hcs (-1) T + hcs 1 T + 2 * hcs 2 T) * (meanR T).2 := by
  obtain ⟨h1, h2⟩ := hcs_sum h
  have e : meanR T = rat (-2 * hcs (-2) T - hcs (-1) T + hcs 1 T + 2 * hcs 2 T) T.length := by
    unfold meanR
    rw [h2, Int.mul_comm _ MM, rat_scale _ _ _ MM_pos]
    congr 1
    omega
  rw [e, h1, rat_cross]
theorem loopMeans_walk (a b c : Int) (fo : Option Addr) (L : List Q) (cap : Nat) (w : World) (hc : L.length ≤ maxLen) (hL : LiesO w fo L) : Calls Tryz.prog 4 #[.agg #[.int .i64 a, .int .i64 b, .int .i64 c, .slice fo L.length cap]] w fun e w' => e = .returned (.bool true) ∧ Below w.heap.size w w' := by
  by_cases hn : 100 < L.length
  · exact loopMeans_long a b c fo _ cap w hn
  · have lg := fun W : World => long_any a b c fo cap L.length false W (.inl ⟨by omega, rfl⟩)
    obtain ⟨r, hr⟩ := fldR_ex a b c L
    by_cases h0 : r = 0
    · subst h0
      obtain ⟨bl, off, rfl, hli⟩ := fld_some hr hL
      have hF := fldR_Fl hr
      obtain ⟨-, -, p3, -⟩ := mul_rng hF.z.a1 hF.z.a4 hF.z.b1 hF.z.b4 hF.z.c1 hF.z.c4
      have hp16 := hF.z.p
      have hne : L ≠ [] := by
        rintro rfl
        have h3 := hF.n
        simp at h3; omega
      have get : ∀ W : World, LiesO W (some ⟨bl, off, none⟩) L → Lies W bl off L := fun W h => by
        rcases h with h | ⟨b1, o1, e, h⟩
        · exact absurd h hne
        · simp at e
          obtain ⟨rfl, rfl⟩ := e
          exact h
      obtain ⟨N, hN⟩ := Int.eq_ofNat_of_zero_le (show 0 ≤ a * b * c by omega)
      have hTL := trs_len a b c L (3 * N)
      have rg := fun v => hcs_rng (trs a b c L (3 * N)) v
      rw [hTL] at rg
      have n48 : 3 * N ≤ 48 := by omega
      have r48 : ∀ v, 0 ≤ hcs v (trs a b c L (3 * N)) ∧ hcs v (trs a b c L (3 * N)) ≤ 100 := fun v => by have := rg v; omega
      have C1 : ∀ W : World, LiesO W (some ⟨bl, off, none⟩) L → Calls Tryz.prog 12 #[.agg #[.int .i64 a, .int .i64 b, .int .i64 c, .slice (some ⟨bl, off, none⟩) L.length cap]] W fun e w' => (∃ (to : Option Addr) (k : Nat), e = .returned (.tuple #[.slice to (trs a b c L (3 * N)).length k, .int .i64 0]) ∧ LiesOI w' to (rl (trs a b c L (3 * N)))) ∧ Below W.heap.size W w' := fun W h => by rw [hTL]; exact tracesL_ok a b c bl off cap N L W (get W h) hF hN.symm
      have C2 : ∀ W : World, LiesO W (some ⟨bl, off, none⟩) L → Calls Tryz.prog 13 #[.agg #[.int .i64 a, .int .i64 b, .int .i64 c, .slice (some ⟨bl, off, none⟩) L.length cap]] W fun e w' => (∃ (to : Option Addr) (k : Nat), e = .returned (.tuple #[.slice to (trs a b c L (3 * N)).length k, .int .i64 0]) ∧ LiesOI w' to (rl (trs a b c L (3 * N)))) ∧ Below W.heap.size W w' := fun W h => by rw [hTL]; exact refTracesL_ok a b c bl off cap N L W (get W h) hF hN.symm
      obtain ⟨ns, q, hq⟩ := smR_ex L
      cases q with
      | true =>
        have hS := sm_IsS hq
        have hI := trs_I hF hS (k := 3 * N) (by omega)
        exact loopMeans_core a b c _ _ _ _ _ _ _ 0 0 (some ⟨bl, off, none⟩) L.length cap L (trs a b c L (3 * N)) w hL (by omega) (r48 _) (r48 _) (r48 _) (r48 _) (r48 _) (.inr ⟨rfl, mean_hist hI⟩) lg C1 C2
          (fun W h => meanL_ok a b c bl off cap N L W (get W h) hF hN.symm) (fun W h => refMeanL_ok a b c bl off cap N L W (get W h) hF hN.symm)
          (fun W h => histL_ok a b c bl off cap N L ns W (get W h) hF hq hS hN.symm) (fun W h => refHistL_ok a b c bl off cap N L ns W (get W h) hF hq hS hN.symm)
      | false =>
        exact loopMeans_core a b c _ _ 0 0 0 0 0 0 7 (some ⟨bl, off, none⟩) L.length cap L (trs a b c L (3 * N)) w hL (by omega) (by omega) (by omega) (by omega) (by omega) (by omega) (.inl (by decide)) lg C1 C2
          (fun W h => meanL_ok a b c bl off cap N L W (get W h) hF hN.symm) (fun W h => refMeanL_ok a b c bl off cap N L W (get W h) hF hN.symm)
          (fun W h => histL_small a b c bl off cap L ns W (get W h) hF hq) (fun W h => refHistL_small a b c bl off cap N L ns W (get W h) hF hq hN.symm)
    · exact loopMeans_core a b c 0 0 0 0 0 0 0 r r fo L.length cap L [] w hL (by simp) (by omega) (by omega) (by omega) (by omega) (by omega) (.inl h0) lg
        (fun W h => (tracesL_bad a b c r fo cap L W h hr h0 (by omega)).mono fun e w' ⟨he, hb⟩ => ⟨⟨none, 0, he, .inl rfl⟩, hb⟩) (fun W h => (refTracesL_bad a b c r fo cap L W h hr h0 (by omega)).mono fun e w' ⟨he, hb⟩ => ⟨⟨none, 0, he, .inl rfl⟩, hb⟩)
        (fun W h => meanL_bad a b c r fo cap L W h hr h0 (by omega)) (fun W h => refMeanL_bad a b c r fo cap L W h hr h0 (by omega))
        (fun W h => histL_bad a b c r fo cap L W h hr h0 (by omega)) (fun W h => refHistL_bad a b c r fo cap L W h hr h0 (by omega))

/-! ### The statement of the law LoopMeans, out of its walk -/
set_option maxRecDepth 100000 in
theorem loopMeans_lifted (os : Os) (started : os.Started) (H : Type) (enc : TypeId × Value → H) :
    ReturnsInHanded {} Tryz.checked os 4 .any (Rows.loopMeansSpec.pre6 enc Tryz.prog Tryz.f4 Rows.loopMeansRow.domain false) (Rows.loopMeansSpec.post enc Tryz.prog Tryz.f4 false true false false) := by
  refine returnsInHanded_of_change (C := Tryz.checked) own started (by kernel_rfl) Tryz.func4
    (ChangeSpec.witness6 (enc := enc) (C := Tryz.checked) false ⟨#[], #[.agg #[.int .i64 0, .int .i64 0, .int .i64 0, .slice none 0 0]], []⟩ 8 (by kernel_rfl) (by kernel_rfl) (by kernel_rfl) (by kernel_rfl)) ?_
  intro W base args ds gs before hval0 hW hcnd _
  have hval : ∀ (j : Nat) t v, Tryz.f4.params[j]? = some t → args[j]? = some v → Value.okWide Tryz.prog W .any base t v := hval0
  have hW' := hW
  obtain ⟨p, q, hA0, hV, rfl, hfz, hnd⟩ := hW
  have hA : DataW.TrodAll enc Tryz.prog W 0 (fun _ => true) true Tryz.f4.params.toList args.toList ds p := hA0
  rw [Tryz.params4] at hA hval
  obtain ⟨v0, vs0, d0, ds0, p0, q0, hargs, rfl, rfl, h0, r0⟩ := trodAll_cons hA
  obtain ⟨rfl, rfl, rfl⟩ := trodAll_nil r0
  obtain rfl : args = #[v0] := by cases args; simp_all
  obtain ⟨rfl, rfl⟩ := trodVars_none hV
  have k0 := h0
  have lt0 : ∀ x ∈ p0, x.block < W.heap.size := by obtain ⟨m, hm⟩ := k0; exact DataW.trod_lt m _ _ _ hm
  obtain ⟨x0, y0, z0, ao0, L0, cap0, rfl, hl0, hm0⟩ := open_field (hval 0 25 v0 rfl rfl) h0
  clear hA0 hval0
  refine (loopMeans_walk x0 y0 z0 ao0 L0 cap0 W hl0 hm0).mono fun e W' ⟨he, bel⟩ => ?_
  subst he
  exact ⟨_, rfl, _, _, _, [], _, [], hW', trodAll_mk1 (shut_bool Tryz.underlying4 _), (trodAll_cons_mk (Below.trod laidOut (by kernel_rfl) (of_decide_eq_true (by kernel_rfl)) k0 bel lt0) trodAll_mk0), rfl, bel.frame _, fun h => by cases h⟩

theorem loopMeans_jf9 : (Rows.loopMeansRow.inPlace == Tryz.prog.inPlace 4) = true := by kernel_rfl
theorem loopMeans_jf10 : (Rows.loopMeansRow.unfollowed == Tryz.prog.unfollowed 4) = true := by kernel_rfl
theorem loopMeans_jf11 : (Rows.loopMeansRow.recurses == Tryz.prog.recurses 4) = true := by kernel_rfl
theorem loopMeans_jf12 : (Rows.loopMeansRow.named == Tryz.prog.varsNamed 4) = true := by kernel_rfl
theorem loopMeans_facts : joinedFacts Tryz.prog 4 Tryz.f4 Rows.loopMeansSpec Rows.loopMeansRow = true := by
  unfold joinedFacts
  exact (band (band (band (band (band (band (band (band (band (band (band (band (band (band (band (band (band (band (band (band (band (band (band (band (band (band (band (band (band (band (band (by kernel_rfl) jf1) jf2) (by kernel_rfl)) (by kernel_rfl)) (by kernel_rfl)) jf6) (by kernel_rfl)) jf8) loopMeans_jf9) loopMeans_jf10) loopMeans_jf11) loopMeans_jf12) (by kernel_rfl)) (by kernel_rfl)) (by kernel_rfl)) (by kernel_rfl)) (by kernel_rfl)) (by kernel_rfl)) (by kernel_rfl)) (by kernel_rfl)) (by kernel_rfl)) (by kernel_rfl)) (by kernel_rfl)) jf24) jf25) jf26) jf27) (by kernel_rfl)) (by kernel_rfl)) (by kernel_rfl)) (by kernel_rfl))

theorem loopMeans_over : Rows.loopMeansRow.holds Tryz.pinned (OpenSpec.ofChange Rows.loopMeansSpec) :=
  OpenClaim.holds_of_wide 4 Tryz.f4 rfl rfl rfl rfl rfl rfl rfl ⟨rfl, rfl, rfl, rfl, rfl⟩ rfl rfl rfl rfl rfl (by kernel_rfl) Tryz.func4 loopMeans_facts
    (of_decide_eq_true (by kernel_rfl)) (by unfold Func.isWrapper; first | (rw [if_pos (by decide +kernel)]; kernel_rfl) | (rw [if_neg (by decide +kernel)]; exact ⟨rfl, rfl⟩))
    (fun os started H enc _ => loopMeans_lifted os started H enc)

theorem loopMeans_holds : Rows.LoopMeansSaid := loopMeans_over
#print axioms loopMeans_holds

end Go.Proofs.YtjidbajcnomceaaGreat
