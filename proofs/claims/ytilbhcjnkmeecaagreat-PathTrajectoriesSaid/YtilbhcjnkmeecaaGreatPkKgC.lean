/- The force on a link, as the document's answers make it.
Conditions: those written at each theorem. -/
import Derived.Test.YtilbhcjnkmeecaaGreatPkKfC
import Derived.Test.YtilbhcjnkmeecaaGreatPkAlongR
namespace Go.Proofs.YtilbhcjnkmeecaaGreat
set_option linter.unusedVariables false
set_option linter.unusedSimpArgs false
set_option maxRecDepth 1000000
open Go.RowKit
open Um Tm Cm Km

theorem lies4I {w : World} {b : Nat} {x y z t : Int} {T : TypeId} (h : w.heap[b]? = some (.cells #[.int .i64 x, .int .i64 y, .int .i64 z, .int .i64 t] T)) : LiesI w b 0 [x, y, z, t] := by
  intro i u hu
  match i, hu with
  | 0, hu => simp at hu; subst hu; simp [World.cell?, h]
  | 1, hu => simp at hu; subst hu; simp [World.cell?, h]
  | 2, hu => simp at hu; subst hu; simp [World.cell?, h]
  | 3, hu => simp at hu; subst hu; simp [World.cell?, h]
  | i + 4, hu => simp at hu
/-- the parts of a unit in a block -/
structure UP (w : World) (b : Nat) (x : Q) : Prop where
  c1 : w.cell? ⟨b, 1, none⟩ = some (.int .i64 x.b)
  c2 : w.cell? ⟨b, 2, none⟩ = some (.int .i64 x.c)
  c3 : w.cell? ⟨b, 3, none⟩ = some (.int .i64 x.d)
  c4 : w.cell? ⟨b, 4, none⟩ = some (.int .i64 x.n)
  lt : b < w.heap.size
theorem UP.far {w w1 : World} {b : Nat} {x : Q} {row : Option Nat} (k : UP w b x) (hg : w.grownBy w1 row) (hne : some b ≠ row) : UP w1 b x :=
  ⟨hg.cell k.c1 hne, hg.cell k.c2 hne, hg.cell k.c3 hne, hg.cell k.c4 hne, Nat.lt_of_lt_of_le k.lt hg.size⟩
theorem T3.later {w w1 : World} {b : Nat} {x y z : Int} (k : T3 w b x y z) (hb : Below w.heap.size w w1) : T3 w1 b x y z := k.far (row := none) (grown_ofB hb) (by simp)
theorem UP.later {w w1 : World} {b : Nat} {x : Q} (k : UP w b x) (hb : Below w.heap.size w w1) : UP w1 b x := k.far (row := none) (grown_ofB hb) (by simp)
theorem T3.put0 {w : World} {b : Nat} {x y z : Int} (k : T3 w b x y z) (u : Int) : T3 (w.setCell ⟨b, 0, none⟩ (.int .i64 u)) b u y z := by
  have h0 := k.c0
  exact ⟨World.cell?_setCell_same _ _ _ h0, (World.cell?_setCell_other _ _ _ _ (by simp)).trans k.c1, (World.cell?_setCell_other _ _ _ _ (by simp)).trans k.c2, fun j => by rw [World.frozen?_setCell]; exact k.free j, by simp [World.setCell]; exact k.lt⟩
theorem T3.put1 {w : World} {b : Nat} {x y z : Int} (k : T3 w b x y z) (u : Int) : T3 (w.setCell ⟨b, 1, none⟩ (.int .i64 u)) b x u z := by
  have h0 := k.c1
  exact ⟨(World.cell?_setCell_other _ _ _ _ (by simp)).trans k.c0, World.cell?_setCell_same _ _ _ h0, (World.cell?_setCell_other _ _ _ _ (by simp)).trans k.c2, fun j => by rw [World.frozen?_setCell]; exact k.free j, by simp [World.setCell]; exact k.lt⟩
theorem T3.put2 {w : World} {b : Nat} {x y z : Int} (k : T3 w b x y z) (u : Int) : T3 (w.setCell ⟨b, 2, none⟩ (.int .i64 u)) b x y u := by
  have h0 := k.c2
  exact ⟨(World.cell?_setCell_other _ _ _ _ (by simp)).trans k.c0, (World.cell?_setCell_other _ _ _ _ (by simp)).trans k.c1, World.cell?_setCell_same _ _ _ h0, fun j => by rw [World.frozen?_setCell]; exact k.free j, by simp [World.setCell]; exact k.lt⟩

set_option maxHeartbeats 12800000 in
theorem rforce_d1 (a b c : Int) (bl off cap : Nat) (L : List Q) (s : Nat) (w : World) (hl : Lies w bl off L) (hF : Fl a b c L) (hS : ∀ x ∈ L, IsS x) (hs1 : (s : Int) < a * b * c) :
    Calls Tryz.prog 65 #[.agg #[.int .i64 a, .int .i64 b, .int .i64 c, .slice (some ⟨bl, off, none⟩) L.length cap], .int .i64 (3 * s + 0 : Nat)] w fun e w' => e = .returned (.agg #[.int .i64 (frA tb a b c L s 1), .int .i64 (frA tc a b c L s 1), .int .i64 (frA td a b c L s 1)]) ∧ Below w.heap.size w w' := by
  have hd : IsStep 1 := ⟨by omega, by omega, by omega⟩
  have hs0 : (0 : Int) ≤ s := by omega
  have S1 : IsS (pl4 a b c L s 1 (-2)) := pl4_S hF hS hs0 hs1 hd ⟨by omega, by omega, by omega⟩
  have c1 : ∀ (W : World) (pb : Nat), Lies W bl off L → LiesI W pb 0 [1, (-2), -1, 2] → Calls Tryz.prog 85 #[.agg #[.int .i64 a, .int .i64 b, .int .i64 c, .slice (some ⟨bl, off, none⟩) L.length cap], .int .i64 s, .slice (some ⟨pb, 0, none⟩) 4 4] W fun e w' => e = .returned (.agg #[.int .i64 (pl4 a b c L s 1 (-2)).a, .int .i64 (pl4 a b c L s 1 (-2)).b, .int .i64 (pl4 a b c L s 1 (-2)).c, .int .i64 (pl4 a b c L s 1 (-2)).d, .int .i64 (pl4 a b c L s 1 (-2)).n]) ∧ Below W.heap.size W w' := fun W pb h1 h2 => refUnit_any a b c s bl off cap 4 (some ⟨pb, 0, none⟩) L [1, (-2), -1, 2] W hF hs0 hs1 h1 (.inr ⟨pb, 0, rfl, h2⟩) (by intro t ht; simp at ht; rcases ht with rfl | rfl | rfl | rfl <;> exact ⟨by omega, by omega, by omega⟩) (by simp)
  have S2 : IsS (pl4 a b c L s 1 2) := pl4_S hF hS hs0 hs1 hd ⟨by omega, by omega, by omega⟩
  have c2 : ∀ (W : World) (pb : Nat), Lies W bl off L → LiesI W pb 0 [1, 2, -1, (-2)] → Calls Tryz.prog 85 #[.agg #[.int .i64 a, .int .i64 b, .int .i64 c, .slice (some ⟨bl, off, none⟩) L.length cap], .int .i64 s, .slice (some ⟨pb, 0, none⟩) 4 4] W fun e w' => e = .returned (.agg #[.int .i64 (pl4 a b c L s 1 2).a, .int .i64 (pl4 a b c L s 1 2).b, .int .i64 (pl4 a b c L s 1 2).c, .int .i64 (pl4 a b c L s 1 2).d, .int .i64 (pl4 a b c L s 1 2).n]) ∧ Below W.heap.size W w' := fun W pb h1 h2 => refUnit_any a b c s bl off cap 4 (some ⟨pb, 0, none⟩) L [1, 2, -1, (-2)] W hF hs0 hs1 h1 (.inr ⟨pb, 0, rfl, h2⟩) (by intro t ht; simp at ht; rcases ht with rfl | rfl | rfl | rfl <;> exact ⟨by omega, by omega, by omega⟩) (by simp)
  have S3 : IsS (pl4 a b c L s 1 (-3)) := pl4_S hF hS hs0 hs1 hd ⟨by omega, by omega, by omega⟩
  have c3 : ∀ (W : World) (pb : Nat), Lies W bl off L → LiesI W pb 0 [1, (-3), -1, 3] → Calls Tryz.prog 85 #[.agg #[.int .i64 a, .int .i64 b, .int .i64 c, .slice (some ⟨bl, off, none⟩) L.length cap], .int .i64 s, .slice (some ⟨pb, 0, none⟩) 4 4] W fun e w' => e = .returned (.agg #[.int .i64 (pl4 a b c L s 1 (-3)).a, .int .i64 (pl4 a b c L s 1 (-3)).b, .int .i64 (pl4 a b c L s 1 (-3)).c, .int .i64 (pl4 a b c L s 1 (-3)).d, .int .i64 (pl4 a b c L s 1 (-3)).n]) ∧ Below W.heap.size W w' := fun W pb h1 h2 => refUnit_any a b c s bl off cap 4 (some ⟨pb, 0, none⟩) L [1, (-3), -1, 3] W hF hs0 hs1 h1 (.inr ⟨pb, 0, rfl, h2⟩) (by intro t ht; simp at ht; rcases ht with rfl | rfl | rfl | rfl <;> exact ⟨by omega, by omega, by omega⟩) (by simp)
  have S4 : IsS (pl4 a b c L s 1 3) := pl4_S hF hS hs0 hs1 hd ⟨by omega, by omega, by omega⟩
  have c4 : ∀ (W : World) (pb : Nat), Lies W bl off L → LiesI W pb 0 [1, 3, -1, (-3)] → Calls Tryz.prog 85 #[.agg #[.int .i64 a, .int .i64 b, .int .i64 c, .slice (some ⟨bl, off, none⟩) L.length cap], .int .i64 s, .slice (some ⟨pb, 0, none⟩) 4 4] W fun e w' => e = .returned (.agg #[.int .i64 (pl4 a b c L s 1 3).a, .int .i64 (pl4 a b c L s 1 3).b, .int .i64 (pl4 a b c L s 1 3).c, .int .i64 (pl4 a b c L s 1 3).d, .int .i64 (pl4 a b c L s 1 3).n]) ∧ Below W.heap.size W w' := fun W pb h1 h2 => refUnit_any a b c s bl off cap 4 (some ⟨pb, 0, none⟩) L [1, 3, -1, (-3)] W hF hs0 hs1 h1 (.inr ⟨pb, 0, rfl, h2⟩) (by intro t ht; simp at ht; rcases ht with rfl | rfl | rfl | rfl <;> exact ⟨by omega, by omega, by omega⟩) (by simp)
  have eb : frA tb a b c L s 1 = tb (pl4 a b c L s 1 2) + tb (pl4 a b c L s 1 (-2)) + tb (pl4 a b c L s 1 3) + tb (pl4 a b c L s 1 (-3)) := rfl
  have ec : frA tc a b c L s 1 = tc (pl4 a b c L s 1 2) + tc (pl4 a b c L s 1 (-2)) + tc (pl4 a b c L s 1 3) + tc (pl4 a b c L s 1 (-3)) := rfl
  have ed : frA td a b c L s 1 = td (pl4 a b c L s 1 2) + td (pl4 a b c L s 1 (-2)) + td (pl4 a b c L s 1 3) + td (pl4 a b c L s 1 (-3)) := rfl
  rw [eb, ec, ed]
  clear eb ec ed
  generalize pl4 a b c L s 1 (-2) = q1 at *
  obtain ⟨⟨vb11, vb12⟩, ⟨vc11, vc12⟩, ⟨vd11, vd12⟩, hn1, ⟨x10, x11⟩, ⟨x12, x13⟩, ⟨x14, x15⟩⟩ := S1.tw
  have hb1 : (2 * q1.b).tdiv q1.n = tb q1 := rfl
  have hc1 : (2 * q1.c).tdiv q1.n = tc q1 := rfl
  have hd1 : (2 * q1.d).tdiv q1.n = td q1 := rfl
  generalize tb q1 = r10 at *
  generalize tc q1 = r11 at *
  generalize td q1 = r12 at *
  have n11 : 1 ≤ q1.n := by omega
  have n12 : q1.n ≤ 2 := by omega
  have n13 : (q1.n == 0) = false := by simp; omega
  have n14 : ¬ q1.n = 0 := by omega
  have HQ1 := Lib.hid (And.intro hb1 (And.intro hc1 hd1))
  clear hb1 hc1 hd1 hn1
  generalize pl4 a b c L s 1 2 = q2 at *
  obtain ⟨⟨vb21, vb22⟩, ⟨vc21, vc22⟩, ⟨vd21, vd22⟩, hn2, ⟨x20, x21⟩, ⟨x22, x23⟩, ⟨x24, x25⟩⟩ := S2.tw
  have hb2 : (2 * q2.b).tdiv q2.n = tb q2 := rfl
  have hc2 : (2 * q2.c).tdiv q2.n = tc q2 := rfl
  have hd2 : (2 * q2.d).tdiv q2.n = td q2 := rfl
  generalize tb q2 = r20 at *
  generalize tc q2 = r21 at *
  generalize td q2 = r22 at *
  have n21 : 1 ≤ q2.n := by omega
  have n22 : q2.n ≤ 2 := by omega
  have n23 : (q2.n == 0) = false := by simp; omega
  have n24 : ¬ q2.n = 0 := by omega
  have HQ2 := Lib.hid (And.intro hb2 (And.intro hc2 hd2))
  clear hb2 hc2 hd2 hn2
  generalize pl4 a b c L s 1 (-3) = q3 at *
  obtain ⟨⟨vb31, vb32⟩, ⟨vc31, vc32⟩, ⟨vd31, vd32⟩, hn3, ⟨x30, x31⟩, ⟨x32, x33⟩, ⟨x34, x35⟩⟩ := S3.tw
  have hb3 : (2 * q3.b).tdiv q3.n = tb q3 := rfl
  have hc3 : (2 * q3.c).tdiv q3.n = tc q3 := rfl
  have hd3 : (2 * q3.d).tdiv q3.n = td q3 := rfl
  generalize tb q3 = r30 at *
  generalize tc q3 = r31 at *
  generalize td q3 = r32 at *
  have n31 : 1 ≤ q3.n := by omega
  have n32 : q3.n ≤ 2 := by omega
  have n33 : (q3.n == 0) = false := by simp; omega
  have n34 : ¬ q3.n = 0 := by omega
  have HQ3 := Lib.hid (And.intro hb3 (And.intro hc3 hd3))
  clear hb3 hc3 hd3 hn3
  generalize pl4 a b c L s 1 3 = q4 at *
  obtain ⟨⟨vb41, vb42⟩, ⟨vc41, vc42⟩, ⟨vd41, vd42⟩, hn4, ⟨x40, x41⟩, ⟨x42, x43⟩, ⟨x44, x45⟩⟩ := S4.tw
  have hb4 : (2 * q4.b).tdiv q4.n = tb q4 := rfl
  have hc4 : (2 * q4.c).tdiv q4.n = tc q4 := rfl
  have hd4 : (2 * q4.d).tdiv q4.n = td q4 := rfl
  generalize tb q4 = r40 at *
  generalize tc q4 = r41 at *
  generalize td q4 = r42 at *
  have n41 : 1 ≤ q4.n := by omega
  have n42 : q4.n ≤ 2 := by omega
  have n43 : (q4.n == 0) = false := by simp; omega
  have n44 : ¬ q4.n = 0 := by omega
  have HQ4 := Lib.hid (And.intro hb4 (And.intro hc4 hd4))
  clear hb4 hc4 hd4 hn4
  have hp16 := hF.z.p
  have HL := Lib.hid hl
  have d1 : ((3 * s + 0 : Nat) : Int) / 3 = s := by omega
  have d2 : ((3 * s + 0 : Nat) : Int) % 3 = 0 := by omega
  have d3 : ((3 * s + 0 : Nat) : Int) ≤ 1000 := by omega
  have d4 : (0 : Int) ≤ ((3 * s + 0 : Nat) : Int) := by omega
  clear hl hF hS hd hs0 hs1 hp16 S1 S2 S3 S4
  generalize ((3 * s + 0 : Nat) : Int) = i at *
  have kc := @Tail.cell_re
  have kc1 : ∀ (W : World) (o : Obj) (d : Nat) (os : Array Obj) (a : Addr), a.block ≤ W.heap.size → (Sort.grow (redrawn (W.alloc o) d) os).cell? a = (W.alloc o).cell? a := fun W o d os a h => Tail.cell_re (W.alloc o) d os a (Nat.lt_of_le_of_lt h (by simp))
  go_enter Tryz.func65, Tryz.ntmps65
  go_wp2
  have B0 : FW (((w.alloc (.cells #[.int .i64 a, .int .i64 b, .int .i64 c, .slice (some ⟨bl, off, none⟩) L.length cap] 25)).alloc (.cells #[.int .i64 0, .int .i64 0, .int .i64 0] 22)).alloc (.cells #[.int .i64 0, .int .i64 0, .int .i64 0] 22)) w.heap.size a b c (.slice (some ⟨bl, off, none⟩) L.length cap) := ⟨by simp [go_sem], by simp [go_sem], by simp [go_sem], by simp [go_sem], fun j => by simp [go_sem], by simp <;> omega⟩
  have R0 : T3 (((w.alloc (.cells #[.int .i64 a, .int .i64 b, .int .i64 c, .slice (some ⟨bl, off, none⟩) L.length cap] 25)).alloc (.cells #[.int .i64 0, .int .i64 0, .int .i64 0] 22)).alloc (.cells #[.int .i64 0, .int .i64 0, .int .i64 0] 22)) (w.heap.size + 1) 0 0 0 := ⟨by simp [go_sem], by simp [go_sem], by simp [go_sem], fun j => by simp [go_sem], by simp <;> omega⟩
  have F0 : T3 (((w.alloc (.cells #[.int .i64 a, .int .i64 b, .int .i64 c, .slice (some ⟨bl, off, none⟩) L.length cap] 25)).alloc (.cells #[.int .i64 0, .int .i64 0, .int .i64 0] 22)).alloc (.cells #[.int .i64 0, .int .i64 0, .int .i64 0] 22)) (w.heap.size + 2) 0 0 0 := ⟨by simp [go_sem], by simp [go_sem], by simp [go_sem], fun j => by simp [go_sem], by simp <;> omega⟩
  have G0 : Below w.heap.size w (((w.alloc (.cells #[.int .i64 a, .int .i64 b, .int .i64 c, .slice (some ⟨bl, off, none⟩) L.length cap] 25)).alloc (.cells #[.int .i64 0, .int .i64 0, .int .i64 0] 22)).alloc (.cells #[.int .i64 0, .int .i64 0, .int .i64 0] 22)) := by repeat (first | (with_reducible exact Below.refl _ _) | (with_reducible refine Below.setCell ?_ ?_ _) | (with_reducible refine Below.drew ?_) | (with_reducible refine Below.alloc ?_ ?_ _) | omega | (simp <;> omega))
  have HB0 := Lib.hid B0
  have HR0 := Lib.hid R0
  have HF0 := Lib.hid F0
  have HG0 := Lib.hid G0
  clear B0 R0 F0 G0
  generalize ((w.alloc (.cells #[.int .i64 a, .int .i64 b, .int .i64 c, .slice (some ⟨bl, off, none⟩) L.length cap] 25)).alloc (.cells #[.int .i64 0, .int .i64 0, .int .i64 0] 22)).alloc (.cells #[.int .i64 0, .int .i64 0, .int .i64 0] 22) = X0 at *
  obtain ⟨z, hz1, hz2, HFz⟩ : ∃ z : Int, z ≤ 0 ∧ 0 ≤ z ∧ Hid (T3 X0 (w.heap.size + 2) z z z) := ⟨0, by omega, by omega, HF0⟩
  clear HF0
  have HF0 := HFz
  clear HFz
  refine wp_loop_rounds 4 ?_
  rw [rounds_succ]
  go_wp2
  rw [rounds_succ]
  go_wp2
  refine wp_loop_rounds 3 ?_
  rw [rounds_succ]
  obtain ⟨g10, g11, g12, g13, gf1, gl1⟩ := HB0.out
  have hb1 := HG0.out
  go_wp2_with (fail)
  refine (c1 _ _ (HL.out.later (by repeat (first | (with_reducible exact Below.refl _ _) | (with_reducible refine Below.setCell ?_ ?_ _) | (with_reducible refine Below.drew ?_) | (with_reducible refine Below.alloc ?_ ?_ _) | (with_reducible refine Below.trans ?_ (Below.mono hb1 ?_)) | (with_reducible exact hb1.size) | omega | (simp <;> omega) | (simp <;> (have s := hb1.size; omega)) | (have s0 := hb1.size; (try simp at s0); (try simp); omega)))) (lies4I (heap_alloc_new _ _))).mono ?_
  clear c1
  rintro e' V1 ⟨rfl, hv1⟩
  have bv1 : Below X0.heap.size X0 V1 := by repeat (first | (with_reducible exact Below.refl _ _) | (with_reducible refine Below.setCell ?_ ?_ _) | (with_reducible refine Below.drew ?_) | (with_reducible refine Below.alloc ?_ ?_ _) | (with_reducible refine Below.trans ?_ (Below.mono hv1 ?_)) | (with_reducible exact hv1.size) | omega | (simp <;> omega) | (simp <;> (have s := hv1.size; omega)) | (have s0 := hv1.size; (try simp at s0); (try simp); omega))
  have U1 : UP (V1.alloc (.cells #[.int .i64 q1.a, .int .i64 q1.b, .int .i64 q1.c, .int .i64 q1.d, .int .i64 q1.n] 40)) V1.heap.size q1 := ⟨by simp [go_sem], by simp [go_sem], by simp [go_sem], by simp [go_sem], by simp⟩
  have ba1 : Below X0.heap.size X0 (V1.alloc (.cells #[.int .i64 q1.a, .int .i64 q1.b, .int .i64 q1.c, .int .i64 q1.d, .int .i64 q1.n] 40)) := by repeat (first | (with_reducible exact Below.refl _ _) | (with_reducible refine Below.setCell ?_ ?_ _) | (with_reducible refine Below.drew ?_) | (with_reducible refine Below.alloc ?_ ?_ _) | (with_reducible refine Below.trans ?_ (Below.mono bv1 ?_)) | (with_reducible exact bv1.size) | omega | (simp <;> omega) | (simp <;> (have s := bv1.size; omega)) | (have s0 := bv1.size; (try simp at s0); (try simp); omega))
  have ls1 : X0.heap.size ≤ V1.heap.size := bv1.size
  have HF1a := Lib.hid (HF0.out.later ba1)
  have HR1a := Lib.hid (HR0.out.later ba1)
  have HB1a := Lib.hid (HB0.out.later ba1)
  have HG1a := Lib.hid (HG0.out.trans (ba1.mono HG0.out.size))
  have HU1a := Lib.hid U1
  have gF1 := HF0.out.lt
  clear g10 g11 g12 g13 gf1 gl1 hb1 hv1 bv1 U1 ba1 HF0 HR0 HB0 HG0
  go_wp2
  generalize V1.alloc (.cells #[.int .i64 q1.a, .int .i64 q1.b, .int .i64 q1.c, .int .i64 q1.d, .int .i64 q1.n] 40) = A1 at *
  obtain ⟨p101, p102, p103, p104, pl10⟩ := HU1a.out
  have f10 := HF1a.out.c0
  have fl10 := HF1a.out.lt
  have qb10 := HQ1.out.1
  refine Tail.region_tail_below 10 (by kernel_rfl) (by kernel_rfl) ?_
  simp only [List.take_succ_cons, List.take_zero]
  repeat (go_big_quiet_step (fail))
  refine wpQuiet_nil ?_
  intro Z10 hz10
  have F10z := HF1a.out.later hz10
  have U10z := HU1a.out.later hz10
  have R10z := HR1a.out.later hz10
  have B10z := HB1a.out.later hz10
  have G10z := HG1a.out.trans (hz10.mono HG1a.out.size)
  have hf10 := F10z.c0
  have hff10 := F10z.free
  have hfl10 := F10z.lt
  clear p101 p102 p103 p104 pl10 f10 fl10 qb10
  obtain ⟨u10, hu10⟩ : ∃ u : Int, z + r10 = u := ⟨_, rfl⟩
  have y10 : -2 ≤ u10 := by omega
  have yy10 : u10 ≤ 2 := by omega
  have Gs10 := grown_setCell Z10 ⟨w.heap.size + 2, 0, none⟩ (.int .i64 u10)
  have HF1b := Lib.hid (F10z.put0 u10)
  have HU1b := Lib.hid (U10z.far Gs10 (by simp; omega))
  have HR1b := Lib.hid (R10z.far Gs10 (by simp))
  have HB1b := Lib.hid (B10z.grown Gs10 (by simp))
  have HG1b := Lib.hid (G10z.setCell (p := ⟨w.heap.size + 2, 0, none⟩) (by simp) (.int .i64 u10))
  clear F10z U10z R10z B10z G10z Gs10 HF1a HU1a HR1a HB1a HG1a hz10
  go_wp2
  have HW10 := Lib.hid hu10
  clear hu10 hf10 hff10 hfl10
  generalize Z10.setCell ⟨w.heap.size + 2, 0, none⟩ (.int .i64 u10) = Y10 at *
  obtain ⟨p111, p112, p113, p114, pl11⟩ := HU1b.out
  have f11 := HF1b.out.c1
  have fl11 := HF1b.out.lt
  have qb11 := HQ1.out.2.1
  refine Tail.region_tail_below 10 (by kernel_rfl) (by kernel_rfl) ?_
  simp only [List.take_succ_cons, List.take_zero]
  repeat (go_big_quiet_step (fail))
  refine wpQuiet_nil ?_
  intro Z11 hz11
  have F11z := HF1b.out.later hz11
  have U11z := HU1b.out.later hz11
  have R11z := HR1b.out.later hz11
  have B11z := HB1b.out.later hz11
  have G11z := HG1b.out.trans (hz11.mono HG1b.out.size)
  have hf11 := F11z.c1
  have hff11 := F11z.free
  have hfl11 := F11z.lt
  clear p111 p112 p113 p114 pl11 f11 fl11 qb11
  obtain ⟨u11, hu11⟩ : ∃ u : Int, z + r11 = u := ⟨_, rfl⟩
  have y11 : -2 ≤ u11 := by omega
  have yy11 : u11 ≤ 2 := by omega
  have Gs11 := grown_setCell Z11 ⟨w.heap.size + 2, 1, none⟩ (.int .i64 u11)
  have HF1c := Lib.hid (F11z.put1 u11)
  have HU1c := Lib.hid (U11z.far Gs11 (by simp; omega))
  have HR1c := Lib.hid (R11z.far Gs11 (by simp))
  have HB1c := Lib.hid (B11z.grown Gs11 (by simp))
  have HG1c := Lib.hid (G11z.setCell (p := ⟨w.heap.size + 2, 1, none⟩) (by simp) (.int .i64 u11))
  clear F11z U11z R11z B11z G11z Gs11 HF1b HU1b HR1b HB1b HG1b hz11
  go_wp2
  have HW11 := Lib.hid hu11
  clear hu11 hf11 hff11 hfl11
  generalize Z11.setCell ⟨w.heap.size + 2, 1, none⟩ (.int .i64 u11) = Y11 at *
  obtain ⟨p121, p122, p123, p124, pl12⟩ := HU1c.out
  have f12 := HF1c.out.c2
  have fl12 := HF1c.out.lt
  have qb12 := HQ1.out.2.2
  refine Tail.region_tail_below 10 (by kernel_rfl) (by kernel_rfl) ?_
  simp only [List.take_succ_cons, List.take_zero]
  repeat (go_big_quiet_step (fail))
  refine wpQuiet_nil ?_
  intro Z12 hz12
  have F12z := HF1c.out.later hz12
  have U12z := HU1c.out.later hz12
  have R12z := HR1c.out.later hz12
  have B12z := HB1c.out.later hz12
  have G12z := HG1c.out.trans (hz12.mono HG1c.out.size)
  have hf12 := F12z.c2
  have hff12 := F12z.free
  have hfl12 := F12z.lt
  clear p121 p122 p123 p124 pl12 f12 fl12 qb12
  obtain ⟨u12, hu12⟩ : ∃ u : Int, z + r12 = u := ⟨_, rfl⟩
  have y12 : -2 ≤ u12 := by omega
  have yy12 : u12 ≤ 2 := by omega
  have Gs12 := grown_setCell Z12 ⟨w.heap.size + 2, 2, none⟩ (.int .i64 u12)
  have HF1d := Lib.hid (F12z.put2 u12)
  have HU1d := Lib.hid (U12z.far Gs12 (by simp; omega))
  have HR1d := Lib.hid (R12z.far Gs12 (by simp))
  have HB1d := Lib.hid (B12z.grown Gs12 (by simp))
  have HG1d := Lib.hid (G12z.setCell (p := ⟨w.heap.size + 2, 2, none⟩) (by simp) (.int .i64 u12))
  clear F12z U12z R12z B12z G12z Gs12 HF1c HU1c HR1c HB1c HG1c hz12
  go_wp2
  have HW12 := Lib.hid hu12
  clear hu12 hf12 hff12 hfl12
  generalize Z12.setCell ⟨w.heap.size + 2, 2, none⟩ (.int .i64 u12) = X1 at *
  have HF1 := HF1d
  have HR1 := HR1d
  have HB1 := HB1d
  have HG1 := HG1d
  clear HF1d HR1d HB1d HG1d HU1d
  rw [rounds_succ]
  obtain ⟨g20, g21, g22, g23, gf2, gl2⟩ := HB1.out
  have hb2 := HG1.out
  go_wp2_with (fail)
  refine (c2 _ _ (HL.out.later (by repeat (first | (with_reducible exact Below.refl _ _) | (with_reducible refine Below.setCell ?_ ?_ _) | (with_reducible refine Below.drew ?_) | (with_reducible refine Below.alloc ?_ ?_ _) | (with_reducible refine Below.trans ?_ (Below.mono hb2 ?_)) | (with_reducible exact hb2.size) | omega | (simp <;> omega) | (simp <;> (have s := hb2.size; omega)) | (have s0 := hb2.size; (try simp at s0); (try simp); omega)))) (lies4I (heap_alloc_new _ _))).mono ?_
  clear c2
  rintro e' V2 ⟨rfl, hv2⟩
  have bv2 : Below X1.heap.size X1 V2 := by repeat (first | (with_reducible exact Below.refl _ _) | (with_reducible refine Below.setCell ?_ ?_ _) | (with_reducible refine Below.drew ?_) | (with_reducible refine Below.alloc ?_ ?_ _) | (with_reducible refine Below.trans ?_ (Below.mono hv2 ?_)) | (with_reducible exact hv2.size) | omega | (simp <;> omega) | (simp <;> (have s := hv2.size; omega)) | (have s0 := hv2.size; (try simp at s0); (try simp); omega))
  have U2 : UP (V2.alloc (.cells #[.int .i64 q2.a, .int .i64 q2.b, .int .i64 q2.c, .int .i64 q2.d, .int .i64 q2.n] 40)) V2.heap.size q2 := ⟨by simp [go_sem], by simp [go_sem], by simp [go_sem], by simp [go_sem], by simp⟩
  have ba2 : Below X1.heap.size X1 (V2.alloc (.cells #[.int .i64 q2.a, .int .i64 q2.b, .int .i64 q2.c, .int .i64 q2.d, .int .i64 q2.n] 40)) := by repeat (first | (with_reducible exact Below.refl _ _) | (with_reducible refine Below.setCell ?_ ?_ _) | (with_reducible refine Below.drew ?_) | (with_reducible refine Below.alloc ?_ ?_ _) | (with_reducible refine Below.trans ?_ (Below.mono bv2 ?_)) | (with_reducible exact bv2.size) | omega | (simp <;> omega) | (simp <;> (have s := bv2.size; omega)) | (have s0 := bv2.size; (try simp at s0); (try simp); omega))
  have ls2 : X1.heap.size ≤ V2.heap.size := bv2.size
  have HF2a := Lib.hid (HF1.out.later ba2)
  have HR2a := Lib.hid (HR1.out.later ba2)
  have HB2a := Lib.hid (HB1.out.later ba2)
  have HG2a := Lib.hid (HG1.out.trans (ba2.mono HG1.out.size))
  have HU2a := Lib.hid U2
  have gF2 := HF1.out.lt
  clear g20 g21 g22 g23 gf2 gl2 hb2 hv2 bv2 U2 ba2 HF1 HR1 HB1 HG1
  go_wp2
  generalize V2.alloc (.cells #[.int .i64 q2.a, .int .i64 q2.b, .int .i64 q2.c, .int .i64 q2.d, .int .i64 q2.n] 40) = A2 at *
  obtain ⟨p201, p202, p203, p204, pl20⟩ := HU2a.out
  have f20 := HF2a.out.c0
  have fl20 := HF2a.out.lt
  have qb20 := HQ2.out.1
  refine Tail.region_tail_below 10 (by kernel_rfl) (by kernel_rfl) ?_
  simp only [List.take_succ_cons, List.take_zero]
  repeat (go_big_quiet_step (fail))
  refine wpQuiet_nil ?_
  intro Z20 hz20
  have F20z := HF2a.out.later hz20
  have U20z := HU2a.out.later hz20
  have R20z := HR2a.out.later hz20
  have B20z := HB2a.out.later hz20
  have G20z := HG2a.out.trans (hz20.mono HG2a.out.size)
  have hf20 := F20z.c0
  have hff20 := F20z.free
  have hfl20 := F20z.lt
  clear p201 p202 p203 p204 pl20 f20 fl20 qb20
  obtain ⟨u20, hu20⟩ : ∃ u : Int, u10 + r20 = u := ⟨_, rfl⟩
  have y20 : -4 ≤ u20 := by omega
  have yy20 : u20 ≤ 4 := by omega
  have Gs20 := grown_setCell Z20 ⟨w.heap.size + 2, 0, none⟩ (.int .i64 u20)
  have HF2b := Lib.hid (F20z.put0 u20)
  have HU2b := Lib.hid (U20z.far Gs20 (by simp; omega))
  have HR2b := Lib.hid (R20z.far Gs20 (by simp))
  have HB2b := Lib.hid (B20z.grown Gs20 (by simp))
  have HG2b := Lib.hid (G20z.setCell (p := ⟨w.heap.size + 2, 0, none⟩) (by simp) (.int .i64 u20))
  clear F20z U20z R20z B20z G20z Gs20 HF2a HU2a HR2a HB2a HG2a hz20
  go_wp2
  have HW20 := Lib.hid hu20
  clear hu20 hf20 hff20 hfl20
  generalize Z20.setCell ⟨w.heap.size + 2, 0, none⟩ (.int .i64 u20) = Y20 at *
  obtain ⟨p211, p212, p213, p214, pl21⟩ := HU2b.out
  have f21 := HF2b.out.c1
  have fl21 := HF2b.out.lt
  have qb21 := HQ2.out.2.1
  refine Tail.region_tail_below 10 (by kernel_rfl) (by kernel_rfl) ?_
  simp only [List.take_succ_cons, List.take_zero]
  repeat (go_big_quiet_step (fail))
  refine wpQuiet_nil ?_
  intro Z21 hz21
  have F21z := HF2b.out.later hz21
  have U21z := HU2b.out.later hz21
  have R21z := HR2b.out.later hz21
  have B21z := HB2b.out.later hz21
  have G21z := HG2b.out.trans (hz21.mono HG2b.out.size)
  have hf21 := F21z.c1
  have hff21 := F21z.free
  have hfl21 := F21z.lt
  clear p211 p212 p213 p214 pl21 f21 fl21 qb21
  obtain ⟨u21, hu21⟩ : ∃ u : Int, u11 + r21 = u := ⟨_, rfl⟩
  have y21 : -4 ≤ u21 := by omega
  have yy21 : u21 ≤ 4 := by omega
  have Gs21 := grown_setCell Z21 ⟨w.heap.size + 2, 1, none⟩ (.int .i64 u21)
  have HF2c := Lib.hid (F21z.put1 u21)
  have HU2c := Lib.hid (U21z.far Gs21 (by simp; omega))
  have HR2c := Lib.hid (R21z.far Gs21 (by simp))
  have HB2c := Lib.hid (B21z.grown Gs21 (by simp))
  have HG2c := Lib.hid (G21z.setCell (p := ⟨w.heap.size + 2, 1, none⟩) (by simp) (.int .i64 u21))
  clear F21z U21z R21z B21z G21z Gs21 HF2b HU2b HR2b HB2b HG2b hz21
  go_wp2
  have HW21 := Lib.hid hu21
  clear hu21 hf21 hff21 hfl21
  generalize Z21.setCell ⟨w.heap.size + 2, 1, none⟩ (.int .i64 u21) = Y21 at *
  obtain ⟨p221, p222, p223, p224, pl22⟩ := HU2c.out
  have f22 := HF2c.out.c2
  have fl22 := HF2c.out.lt
  have qb22 := HQ2.out.2.2
  refine Tail.region_tail_below 10 (by kernel_rfl) (by kernel_rfl) ?_
  simp only [List.take_succ_cons, List.take_zero]
  repeat (go_big_quiet_step (fail))
  refine wpQuiet_nil ?_
  intro Z22 hz22
  have F22z := HF2c.out.later hz22
  have U22z := HU2c.out.later hz22
  have R22z := HR2c.out.later hz22
  have B22z := HB2c.out.later hz22
  have G22z := HG2c.out.trans (hz22.mono HG2c.out.size)
  have hf22 := F22z.c2
  have hff22 := F22z.free
  have hfl22 := F22z.lt
  clear p221 p222 p223 p224 pl22 f22 fl22 qb22
  obtain ⟨u22, hu22⟩ : ∃ u : Int, u12 + r22 = u := ⟨_, rfl⟩
  have y22 : -4 ≤ u22 := by omega
  have yy22 : u22 ≤ 4 := by omega
  have Gs22 := grown_setCell Z22 ⟨w.heap.size + 2, 2, none⟩ (.int .i64 u22)
  have HF2d := Lib.hid (F22z.put2 u22)
  have HU2d := Lib.hid (U22z.far Gs22 (by simp; omega))
  have HR2d := Lib.hid (R22z.far Gs22 (by simp))
  have HB2d := Lib.hid (B22z.grown Gs22 (by simp))
  have HG2d := Lib.hid (G22z.setCell (p := ⟨w.heap.size + 2, 2, none⟩) (by simp) (.int .i64 u22))
  clear F22z U22z R22z B22z G22z Gs22 HF2c HU2c HR2c HB2c HG2c hz22
  go_wp2
  have HW22 := Lib.hid hu22
  clear hu22 hf22 hff22 hfl22
  generalize Z22.setCell ⟨w.heap.size + 2, 2, none⟩ (.int .i64 u22) = X2 at *
  have HF2 := HF2d
  have HR2 := HR2d
  have HB2 := HB2d
  have HG2 := HG2d
  clear HF2d HR2d HB2d HG2d HU2d
  rw [rounds_succ]
  go_wp2
  rw [rounds_succ]
  go_wp2
  refine wp_loop_rounds 3 ?_
  rw [rounds_succ]
  obtain ⟨g30, g31, g32, g33, gf3, gl3⟩ := HB2.out
  have hb3 := HG2.out
  go_wp2_with (fail)
  refine (c3 _ _ (HL.out.later (by repeat (first | (with_reducible exact Below.refl _ _) | (with_reducible refine Below.setCell ?_ ?_ _) | (with_reducible refine Below.drew ?_) | (with_reducible refine Below.alloc ?_ ?_ _) | (with_reducible refine Below.trans ?_ (Below.mono hb3 ?_)) | (with_reducible exact hb3.size) | omega | (simp <;> omega) | (simp <;> (have s := hb3.size; omega)) | (have s0 := hb3.size; (try simp at s0); (try simp); omega)))) (lies4I (heap_alloc_new _ _))).mono ?_
  clear c3
  rintro e' V3 ⟨rfl, hv3⟩
  have bv3 : Below X2.heap.size X2 V3 := by repeat (first | (with_reducible exact Below.refl _ _) | (with_reducible refine Below.setCell ?_ ?_ _) | (with_reducible refine Below.drew ?_) | (with_reducible refine Below.alloc ?_ ?_ _) | (with_reducible refine Below.trans ?_ (Below.mono hv3 ?_)) | (with_reducible exact hv3.size) | omega | (simp <;> omega) | (simp <;> (have s := hv3.size; omega)) | (have s0 := hv3.size; (try simp at s0); (try simp); omega))
  have U3 : UP (V3.alloc (.cells #[.int .i64 q3.a, .int .i64 q3.b, .int .i64 q3.c, .int .i64 q3.d, .int .i64 q3.n] 40)) V3.heap.size q3 := ⟨by simp [go_sem], by simp [go_sem], by simp [go_sem], by simp [go_sem], by simp⟩
  have ba3 : Below X2.heap.size X2 (V3.alloc (.cells #[.int .i64 q3.a, .int .i64 q3.b, .int .i64 q3.c, .int .i64 q3.d, .int .i64 q3.n] 40)) := by repeat (first | (with_reducible exact Below.refl _ _) | (with_reducible refine Below.setCell ?_ ?_ _) | (with_reducible refine Below.drew ?_) | (with_reducible refine Below.alloc ?_ ?_ _) | (with_reducible refine Below.trans ?_ (Below.mono bv3 ?_)) | (with_reducible exact bv3.size) | omega | (simp <;> omega) | (simp <;> (have s := bv3.size; omega)) | (have s0 := bv3.size; (try simp at s0); (try simp); omega))
  have ls3 : X2.heap.size ≤ V3.heap.size := bv3.size
  have HF3a := Lib.hid (HF2.out.later ba3)
  have HR3a := Lib.hid (HR2.out.later ba3)
  have HB3a := Lib.hid (HB2.out.later ba3)
  have HG3a := Lib.hid (HG2.out.trans (ba3.mono HG2.out.size))
  have HU3a := Lib.hid U3
  have gF3 := HF2.out.lt
  clear g30 g31 g32 g33 gf3 gl3 hb3 hv3 bv3 U3 ba3 HF2 HR2 HB2 HG2
  go_wp2
  generalize V3.alloc (.cells #[.int .i64 q3.a, .int .i64 q3.b, .int .i64 q3.c, .int .i64 q3.d, .int .i64 q3.n] 40) = A3 at *
  obtain ⟨p301, p302, p303, p304, pl30⟩ := HU3a.out
  have f30 := HF3a.out.c0
  have fl30 := HF3a.out.lt
  have qb30 := HQ3.out.1
  refine Tail.region_tail_below 10 (by kernel_rfl) (by kernel_rfl) ?_
  simp only [List.take_succ_cons, List.take_zero]
  repeat (go_big_quiet_step (fail))
  refine wpQuiet_nil ?_
  intro Z30 hz30
  have F30z := HF3a.out.later hz30
  have U30z := HU3a.out.later hz30
  have R30z := HR3a.out.later hz30
  have B30z := HB3a.out.later hz30
  have G30z := HG3a.out.trans (hz30.mono HG3a.out.size)
  have hf30 := F30z.c0
  have hff30 := F30z.free
  have hfl30 := F30z.lt
  clear p301 p302 p303 p304 pl30 f30 fl30 qb30
  obtain ⟨u30, hu30⟩ : ∃ u : Int, u20 + r30 = u := ⟨_, rfl⟩
  have y30 : -6 ≤ u30 := by omega
  have yy30 : u30 ≤ 6 := by omega
  have Gs30 := grown_setCell Z30 ⟨w.heap.size + 2, 0, none⟩ (.int .i64 u30)
  have HF3b := Lib.hid (F30z.put0 u30)
  have HU3b := Lib.hid (U30z.far Gs30 (by simp; omega))
  have HR3b := Lib.hid (R30z.far Gs30 (by simp))
  have HB3b := Lib.hid (B30z.grown Gs30 (by simp))
  have HG3b := Lib.hid (G30z.setCell (p := ⟨w.heap.size + 2, 0, none⟩) (by simp) (.int .i64 u30))
  clear F30z U30z R30z B30z G30z Gs30 HF3a HU3a HR3a HB3a HG3a hz30
  go_wp2
  have HW30 := Lib.hid hu30
  clear hu30 hf30 hff30 hfl30
  generalize Z30.setCell ⟨w.heap.size + 2, 0, none⟩ (.int .i64 u30) = Y30 at *
  obtain ⟨p311, p312, p313, p314, pl31⟩ := HU3b.out
  have f31 := HF3b.out.c1
  have fl31 := HF3b.out.lt
  have qb31 := HQ3.out.2.1
  refine Tail.region_tail_below 10 (by kernel_rfl) (by kernel_rfl) ?_
  simp only [List.take_succ_cons, List.take_zero]
  repeat (go_big_quiet_step (fail))
  refine wpQuiet_nil ?_
  intro Z31 hz31
  have F31z := HF3b.out.later hz31
  have U31z := HU3b.out.later hz31
  have R31z := HR3b.out.later hz31
  have B31z := HB3b.out.later hz31
  have G31z := HG3b.out.trans (hz31.mono HG3b.out.size)
  have hf31 := F31z.c1
  have hff31 := F31z.free
  have hfl31 := F31z.lt
  clear p311 p312 p313 p314 pl31 f31 fl31 qb31
  obtain ⟨u31, hu31⟩ : ∃ u : Int, u21 + r31 = u := ⟨_, rfl⟩
  have y31 : -6 ≤ u31 := by omega
  have yy31 : u31 ≤ 6 := by omega
  have Gs31 := grown_setCell Z31 ⟨w.heap.size + 2, 1, none⟩ (.int .i64 u31)
  have HF3c := Lib.hid (F31z.put1 u31)
  have HU3c := Lib.hid (U31z.far Gs31 (by simp; omega))
  have HR3c := Lib.hid (R31z.far Gs31 (by simp))
  have HB3c := Lib.hid (B31z.grown Gs31 (by simp))
  have HG3c := Lib.hid (G31z.setCell (p := ⟨w.heap.size + 2, 1, none⟩) (by simp) (.int .i64 u31))
  clear F31z U31z R31z B31z G31z Gs31 HF3b HU3b HR3b HB3b HG3b hz31
  go_wp2
  have HW31 := Lib.hid hu31
  clear hu31 hf31 hff31 hfl31
  generalize Z31.setCell ⟨w.heap.size + 2, 1, none⟩ (.int .i64 u31) = Y31 at *
  obtain ⟨p321, p322, p323, p324, pl32⟩ := HU3c.out
  have f32 := HF3c.out.c2
  have fl32 := HF3c.out.lt
  have qb32 := HQ3.out.2.2
  refine Tail.region_tail_below 10 (by kernel_rfl) (by kernel_rfl) ?_
  simp only [List.take_succ_cons, List.take_zero]
  repeat (go_big_quiet_step (fail))
  refine wpQuiet_nil ?_
  intro Z32 hz32
  have F32z := HF3c.out.later hz32
  have U32z := HU3c.out.later hz32
  have R32z := HR3c.out.later hz32
  have B32z := HB3c.out.later hz32
  have G32z := HG3c.out.trans (hz32.mono HG3c.out.size)
  have hf32 := F32z.c2
  have hff32 := F32z.free
  have hfl32 := F32z.lt
  clear p321 p322 p323 p324 pl32 f32 fl32 qb32
  obtain ⟨u32, hu32⟩ : ∃ u : Int, u22 + r32 = u := ⟨_, rfl⟩
  have y32 : -6 ≤ u32 := by omega
  have yy32 : u32 ≤ 6 := by omega
  have Gs32 := grown_setCell Z32 ⟨w.heap.size + 2, 2, none⟩ (.int .i64 u32)
  have HF3d := Lib.hid (F32z.put2 u32)
  have HU3d := Lib.hid (U32z.far Gs32 (by simp; omega))
  have HR3d := Lib.hid (R32z.far Gs32 (by simp))
  have HB3d := Lib.hid (B32z.grown Gs32 (by simp))
  have HG3d := Lib.hid (G32z.setCell (p := ⟨w.heap.size + 2, 2, none⟩) (by simp) (.int .i64 u32))
  clear F32z U32z R32z B32z G32z Gs32 HF3c HU3c HR3c HB3c HG3c hz32
  go_wp2
  have HW32 := Lib.hid hu32
  clear hu32 hf32 hff32 hfl32
  generalize Z32.setCell ⟨w.heap.size + 2, 2, none⟩ (.int .i64 u32) = X3 at *
  have HF3 := HF3d
  have HR3 := HR3d
  have HB3 := HB3d
  have HG3 := HG3d
  clear HF3d HR3d HB3d HG3d HU3d
  rw [rounds_succ]
  obtain ⟨g40, g41, g42, g43, gf4, gl4⟩ := HB3.out
  have hb4 := HG3.out
  go_wp2_with (fail)
  refine (c4 _ _ (HL.out.later (by repeat (first | (with_reducible exact Below.refl _ _) | (with_reducible refine Below.setCell ?_ ?_ _) | (with_reducible refine Below.drew ?_) | (with_reducible refine Below.alloc ?_ ?_ _) | (with_reducible refine Below.trans ?_ (Below.mono hb4 ?_)) | (with_reducible exact hb4.size) | omega | (simp <;> omega) | (simp <;> (have s := hb4.size; omega)) | (have s0 := hb4.size; (try simp at s0); (try simp); omega)))) (lies4I (heap_alloc_new _ _))).mono ?_
  clear c4
  rintro e' V4 ⟨rfl, hv4⟩
  have bv4 : Below X3.heap.size X3 V4 := by repeat (first | (with_reducible exact Below.refl _ _) | (with_reducible refine Below.setCell ?_ ?_ _) | (with_reducible refine Below.drew ?_) | (with_reducible refine Below.alloc ?_ ?_ _) | (with_reducible refine Below.trans ?_ (Below.mono hv4 ?_)) | (with_reducible exact hv4.size) | omega | (simp <;> omega) | (simp <;> (have s := hv4.size; omega)) | (have s0 := hv4.size; (try simp at s0); (try simp); omega))
  have U4 : UP (V4.alloc (.cells #[.int .i64 q4.a, .int .i64 q4.b, .int .i64 q4.c, .int .i64 q4.d, .int .i64 q4.n] 40)) V4.heap.size q4 := ⟨by simp [go_sem], by simp [go_sem], by simp [go_sem], by simp [go_sem], by simp⟩
  have ba4 : Below X3.heap.size X3 (V4.alloc (.cells #[.int .i64 q4.a, .int .i64 q4.b, .int .i64 q4.c, .int .i64 q4.d, .int .i64 q4.n] 40)) := by repeat (first | (with_reducible exact Below.refl _ _) | (with_reducible refine Below.setCell ?_ ?_ _) | (with_reducible refine Below.drew ?_) | (with_reducible refine Below.alloc ?_ ?_ _) | (with_reducible refine Below.trans ?_ (Below.mono bv4 ?_)) | (with_reducible exact bv4.size) | omega | (simp <;> omega) | (simp <;> (have s := bv4.size; omega)) | (have s0 := bv4.size; (try simp at s0); (try simp); omega))
  have ls4 : X3.heap.size ≤ V4.heap.size := bv4.size
  have HF4a := Lib.hid (HF3.out.later ba4)
  have HR4a := Lib.hid (HR3.out.later ba4)
  have HB4a := Lib.hid (HB3.out.later ba4)
  have HG4a := Lib.hid (HG3.out.trans (ba4.mono HG3.out.size))
  have HU4a := Lib.hid U4
  have gF4 := HF3.out.lt
  clear g40 g41 g42 g43 gf4 gl4 hb4 hv4 bv4 U4 ba4 HF3 HR3 HB3 HG3
  go_wp2
  generalize V4.alloc (.cells #[.int .i64 q4.a, .int .i64 q4.b, .int .i64 q4.c, .int .i64 q4.d, .int .i64 q4.n] 40) = A4 at *
  obtain ⟨p401, p402, p403, p404, pl40⟩ := HU4a.out
  have f40 := HF4a.out.c0
  have fl40 := HF4a.out.lt
  have qb40 := HQ4.out.1
  refine Tail.region_tail_below 10 (by kernel_rfl) (by kernel_rfl) ?_
  simp only [List.take_succ_cons, List.take_zero]
  repeat (go_big_quiet_step (fail))
  refine wpQuiet_nil ?_
  intro Z40 hz40
  have F40z := HF4a.out.later hz40
  have U40z := HU4a.out.later hz40
  have R40z := HR4a.out.later hz40
  have B40z := HB4a.out.later hz40
  have G40z := HG4a.out.trans (hz40.mono HG4a.out.size)
  have hf40 := F40z.c0
  have hff40 := F40z.free
  have hfl40 := F40z.lt
  clear p401 p402 p403 p404 pl40 f40 fl40 qb40
  obtain ⟨u40, hu40⟩ : ∃ u : Int, u30 + r40 = u := ⟨_, rfl⟩
  have y40 : -8 ≤ u40 := by omega
  have yy40 : u40 ≤ 8 := by omega
  have Gs40 := grown_setCell Z40 ⟨w.heap.size + 2, 0, none⟩ (.int .i64 u40)
  have HF4b := Lib.hid (F40z.put0 u40)
  have HU4b := Lib.hid (U40z.far Gs40 (by simp; omega))
  have HR4b := Lib.hid (R40z.far Gs40 (by simp))
  have HB4b := Lib.hid (B40z.grown Gs40 (by simp))
  have HG4b := Lib.hid (G40z.setCell (p := ⟨w.heap.size + 2, 0, none⟩) (by simp) (.int .i64 u40))
  clear F40z U40z R40z B40z G40z Gs40 HF4a HU4a HR4a HB4a HG4a hz40
  go_wp2
  have HW40 := Lib.hid hu40
  clear hu40 hf40 hff40 hfl40
  generalize Z40.setCell ⟨w.heap.size + 2, 0, none⟩ (.int .i64 u40) = Y40 at *
  obtain ⟨p411, p412, p413, p414, pl41⟩ := HU4b.out
  have f41 := HF4b.out.c1
  have fl41 := HF4b.out.lt
  have qb41 := HQ4.out.2.1
  refine Tail.region_tail_below 10 (by kernel_rfl) (by kernel_rfl) ?_
  simp only [List.take_succ_cons, List.take_zero]
  repeat (go_big_quiet_step (fail))
  refine wpQuiet_nil ?_
  intro Z41 hz41
  have F41z := HF4b.out.later hz41
  have U41z := HU4b.out.later hz41
  have R41z := HR4b.out.later hz41
  have B41z := HB4b.out.later hz41
  have G41z := HG4b.out.trans (hz41.mono HG4b.out.size)
  have hf41 := F41z.c1
  have hff41 := F41z.free
  have hfl41 := F41z.lt
  clear p411 p412 p413 p414 pl41 f41 fl41 qb41
  obtain ⟨u41, hu41⟩ : ∃ u : Int, u31 + r41 = u := ⟨_, rfl⟩
  have y41 : -8 ≤ u41 := by omega
  have yy41 : u41 ≤ 8 := by omega
  have Gs41 := grown_setCell Z41 ⟨w.heap.size + 2, 1, none⟩ (.int .i64 u41)
  have HF4c := Lib.hid (F41z.put1 u41)
  have HU4c := Lib.hid (U41z.far Gs41 (by simp; omega))
  have HR4c := Lib.hid (R41z.far Gs41 (by simp))
  have HB4c := Lib.hid (B41z.grown Gs41 (by simp))
  have HG4c := Lib.hid (G41z.setCell (p := ⟨w.heap.size + 2, 1, none⟩) (by simp) (.int .i64 u41))
  clear F41z U41z R41z B41z G41z Gs41 HF4b HU4b HR4b HB4b HG4b hz41
  go_wp2
  have HW41 := Lib.hid hu41
  clear hu41 hf41 hff41 hfl41
  generalize Z41.setCell ⟨w.heap.size + 2, 1, none⟩ (.int .i64 u41) = Y41 at *
  obtain ⟨p421, p422, p423, p424, pl42⟩ := HU4c.out
  have f42 := HF4c.out.c2
  have fl42 := HF4c.out.lt
  have qb42 := HQ4.out.2.2
  refine Tail.region_tail_below 10 (by kernel_rfl) (by kernel_rfl) ?_
  simp only [List.take_succ_cons, List.take_zero]
  repeat (go_big_quiet_step (fail))
  refine wpQuiet_nil ?_
  intro Z42 hz42
  have F42z := HF4c.out.later hz42
  have U42z := HU4c.out.later hz42
  have R42z := HR4c.out.later hz42
  have B42z := HB4c.out.later hz42
  have G42z := HG4c.out.trans (hz42.mono HG4c.out.size)
  have hf42 := F42z.c2
  have hff42 := F42z.free
  have hfl42 := F42z.lt
  clear p421 p422 p423 p424 pl42 f42 fl42 qb42
  obtain ⟨u42, hu42⟩ : ∃ u : Int, u32 + r42 = u := ⟨_, rfl⟩
  have y42 : -8 ≤ u42 := by omega
  have yy42 : u42 ≤ 8 := by omega
  have Gs42 := grown_setCell Z42 ⟨w.heap.size + 2, 2, none⟩ (.int .i64 u42)
  have HF4d := Lib.hid (F42z.put2 u42)
  have HU4d := Lib.hid (U42z.far Gs42 (by simp; omega))
  have HR4d := Lib.hid (R42z.far Gs42 (by simp))
  have HB4d := Lib.hid (B42z.grown Gs42 (by simp))
  have HG4d := Lib.hid (G42z.setCell (p := ⟨w.heap.size + 2, 2, none⟩) (by simp) (.int .i64 u42))
  clear F42z U42z R42z B42z G42z Gs42 HF4c HU4c HR4c HB4c HG4c hz42
  go_wp2
  have HW42 := Lib.hid hu42
  clear hu42 hf42 hff42 hfl42
  generalize Z42.setCell ⟨w.heap.size + 2, 2, none⟩ (.int .i64 u42) = X4 at *
  have HF4 := HF4d
  have HR4 := HR4d
  have HB4 := HB4d
  have HG4 := HG4d
  clear HF4d HR4d HB4d HG4d HU4d
  rw [rounds_succ]
  go_wp2
  rw [rounds_succ]
  have rr0 := HR4.out.c0
  have rr1 := HR4.out.c1
  have rr2 := HR4.out.c2
  have rf := HR4.out.free
  have rl := HR4.out.lt
  have f0 := HF4.out.c0
  have f1 := HF4.out.c1
  have f2 := HF4.out.c2
  have fl := HF4.out.lt
  go_wp2
  have w0 : r20 + r10 + r40 + r30 = u40 := by have := HW10.out; have := HW20.out; have := HW30.out; have := HW40.out; omega
  have w1 : r21 + r11 + r41 + r31 = u41 := by have := HW11.out; have := HW21.out; have := HW31.out; have := HW41.out; omega
  have w2 : r22 + r12 + r42 + r32 = u42 := by have := HW12.out; have := HW22.out; have := HW32.out; have := HW42.out; omega
  rw [w0, w1, w2]
  refine bodyPost_ret (v := .agg #[.int .i64 u40, .int .i64 u41, .int .i64 u42]) (by simp [results, Tryz.results65, go_sem, rr0, rr1, rr2, rf, rl]) rfl ⟨rfl, ?_⟩
  have hb4 := HG4.out
  repeat (first | (with_reducible exact Below.refl _ _) | (with_reducible refine Below.setCell ?_ ?_ _) | (with_reducible refine Below.drew ?_) | (with_reducible refine Below.alloc ?_ ?_ _) | (with_reducible refine Below.trans ?_ (Below.mono hb4 ?_)) | (with_reducible exact hb4.size) | omega | (simp <;> omega) | (simp <;> (have s := hb4.size; omega)) | (have s0 := hb4.size; (try simp at s0); (try simp); omega))
set_option maxHeartbeats 12800000 in
theorem rforce_d2 (a b c : Int) (bl off cap : Nat) (L : List Q) (s : Nat) (w : World) (hl : Lies w bl off L) (hF : Fl a b c L) (hS : ∀ x ∈ L, IsS x) (hs1 : (s : Int) < a * b * c) :
    Calls Tryz.prog 65 #[.agg #[.int .i64 a, .int .i64 b, .int .i64 c, .slice (some ⟨bl, off, none⟩) L.length cap], .int .i64 (3 * s + 1 : Nat)] w fun e w' => e = .returned (.agg #[.int .i64 (frA tb a b c L s 2), .int .i64 (frA tc a b c L s 2), .int .i64 (frA td a b c L s 2)]) ∧ Below w.heap.size w w' := by
  have hd : IsStep 2 := ⟨by omega, by omega, by omega⟩
  have hs0 : (0 : Int) ≤ s := by omega
  have S1 : IsS (pl4 a b c L s 2 (-1)) := pl4_S hF hS hs0 hs1 hd ⟨by omega, by omega, by omega⟩
  have c1 : ∀ (W : World) (pb : Nat), Lies W bl off L → LiesI W pb 0 [2, (-1), -2, 1] → Calls Tryz.prog 85 #[.agg #[.int .i64 a, .int .i64 b, .int .i64 c, .slice (some ⟨bl, off, none⟩) L.length cap], .int .i64 s, .slice (some ⟨pb, 0, none⟩) 4 4] W fun e w' => e = .returned (.agg #[.int .i64 (pl4 a b c L s 2 (-1)).a, .int .i64 (pl4 a b c L s 2 (-1)).b, .int .i64 (pl4 a b c L s 2 (-1)).c, .int .i64 (pl4 a b c L s 2 (-1)).d, .int .i64 (pl4 a b c L s 2 (-1)).n]) ∧ Below W.heap.size W w' := fun W pb h1 h2 => refUnit_any a b c s bl off cap 4 (some ⟨pb, 0, none⟩) L [2, (-1), -2, 1] W hF hs0 hs1 h1 (.inr ⟨pb, 0, rfl, h2⟩) (by intro t ht; simp at ht; rcases ht with rfl | rfl | rfl | rfl <;> exact ⟨by omega, by omega, by omega⟩) (by simp)
  have S2 : IsS (pl4 a b c L s 2 1) := pl4_S hF hS hs0 hs1 hd ⟨by omega, by omega, by omega⟩
  have c2 : ∀ (W : World) (pb : Nat), Lies W bl off L → LiesI W pb 0 [2, 1, -2, (-1)] → Calls Tryz.prog 85 #[.agg #[.int .i64 a, .int .i64 b, .int .i64 c, .slice (some ⟨bl, off, none⟩) L.length cap], .int .i64 s, .slice (some ⟨pb, 0, none⟩) 4 4] W fun e w' => e = .returned (.agg #[.int .i64 (pl4 a b c L s 2 1).a, .int .i64 (pl4 a b c L s 2 1).b, .int .i64 (pl4 a b c L s 2 1).c, .int .i64 (pl4 a b c L s 2 1).d, .int .i64 (pl4 a b c L s 2 1).n]) ∧ Below W.heap.size W w' := fun W pb h1 h2 => refUnit_any a b c s bl off cap 4 (some ⟨pb, 0, none⟩) L [2, 1, -2, (-1)] W hF hs0 hs1 h1 (.inr ⟨pb, 0, rfl, h2⟩) (by intro t ht; simp at ht; rcases ht with rfl | rfl | rfl | rfl <;> exact ⟨by omega, by omega, by omega⟩) (by simp)
  have S3 : IsS (pl4 a b c L s 2 (-3)) := pl4_S hF hS hs0 hs1 hd ⟨by omega, by omega, by omega⟩
  have c3 : ∀ (W : World) (pb : Nat), Lies W bl off L → LiesI W pb 0 [2, (-3), -2, 3] → Calls Tryz.prog 85 #[.agg #[.int .i64 a, .int .i64 b, .int .i64 c, .slice (some ⟨bl, off, none⟩) L.length cap], .int .i64 s, .slice (some ⟨pb, 0, none⟩) 4 4] W fun e w' => e = .returned (.agg #[.int .i64 (pl4 a b c L s 2 (-3)).a, .int .i64 (pl4 a b c L s 2 (-3)).b, .int .i64 (pl4 a b c L s 2 (-3)).c, .int .i64 (pl4 a b c L s 2 (-3)).d, .int .i64 (pl4 a b c L s 2 (-3)).n]) ∧ Below W.heap.size W w' := fun W pb h1 h2 => refUnit_any a b c s bl off cap 4 (some ⟨pb, 0, none⟩) L [2, (-3), -2, 3] W hF hs0 hs1 h1 (.inr ⟨pb, 0, rfl, h2⟩) (by intro t ht; simp at ht; rcases ht with rfl | rfl | rfl | rfl <;> exact ⟨by omega, by omega, by omega⟩) (by simp)
  have S4 : IsS (pl4 a b c L s 2 3) := pl4_S hF hS hs0 hs1 hd ⟨by omega, by omega, by omega⟩
  have c4 : ∀ (W : World) (pb : Nat), Lies W bl off L → LiesI W pb 0 [2, 3, -2, (-3)] → Calls Tryz.prog 85 #[.agg #[.int .i64 a, .int .i64 b, .int .i64 c, .slice (some ⟨bl, off, none⟩) L.length cap], .int .i64 s, .slice (some ⟨pb, 0, none⟩) 4 4] W fun e w' => e = .returned (.agg #[.int .i64 (pl4 a b c L s 2 3).a, .int .i64 (pl4 a b c L s 2 3).b, .int .i64 (pl4 a b c L s 2 3).c, .int .i64 (pl4 a b c L s 2 3).d, .int .i64 (pl4 a b c L s 2 3).n]) ∧ Below W.heap.size W w' := fun W pb h1 h2 => refUnit_any a b c s bl off cap 4 (some ⟨pb, 0, none⟩) L [2, 3, -2, (-3)] W hF hs0 hs1 h1 (.inr ⟨pb, 0, rfl, h2⟩) (by intro t ht; simp at ht; rcases ht with rfl | rfl | rfl | rfl <;> exact ⟨by omega, by omega, by omega⟩) (by simp)
  have eb : frA tb a b c L s 2 = tb (pl4 a b c L s 2 1) + tb (pl4 a b c L s 2 (-1)) + tb (pl4 a b c L s 2 3) + tb (pl4 a b c L s 2 (-3)) := rfl
  have ec : frA tc a b c L s 2 = tc (pl4 a b c L s 2 1) + tc (pl4 a b c L s 2 (-1)) + tc (pl4 a b c L s 2 3) + tc (pl4 a b c L s 2 (-3)) := rfl
  have ed : frA td a b c L s 2 = td (pl4 a b c L s 2 1) + td (pl4 a b c L s 2 (-1)) + td (pl4 a b c L s 2 3) + td (pl4 a b c L s 2 (-3)) := rfl
  rw [eb, ec, ed]
  clear eb ec ed
  generalize pl4 a b c L s 2 (-1) = q1 at *
  obtain ⟨⟨vb11, vb12⟩, ⟨vc11, vc12⟩, ⟨vd11, vd12⟩, hn1, ⟨x10, x11⟩, ⟨x12, x13⟩, ⟨x14, x15⟩⟩ := S1.tw
  have hb1 : (2 * q1.b).tdiv q1.n = tb q1 := rfl
  have hc1 : (2 * q1.c).tdiv q1.n = tc q1 := rfl
  have hd1 : (2 * q1.d).tdiv q1.n = td q1 := rfl
  generalize tb q1 = r10 at *
  generalize tc q1 = r11 at *
  generalize td q1 = r12 at *
  have n11 : 1 ≤ q1.n := by omega
  have n12 : q1.n ≤ 2 := by omega
  have n13 : (q1.n == 0) = false := by simp; omega
  have n14 : ¬ q1.n = 0 := by omega
  have HQ1 := Lib.hid (And.intro hb1 (And.intro hc1 hd1))
  clear hb1 hc1 hd1 hn1
  generalize pl4 a b c L s 2 1 = q2 at *
  obtain ⟨⟨vb21, vb22⟩, ⟨vc21, vc22⟩, ⟨vd21, vd22⟩, hn2, ⟨x20, x21⟩, ⟨x22, x23⟩, ⟨x24, x25⟩⟩ := S2.tw
  have hb2 : (2 * q2.b).tdiv q2.n = tb q2 := rfl
  have hc2 : (2 * q2.c).tdiv q2.n = tc q2 := rfl
  have hd2 : (2 * q2.d).tdiv q2.n = td q2 := rfl
  generalize tb q2 = r20 at *
  generalize tc q2 = r21 at *
  generalize td q2 = r22 at *
  have n21 : 1 ≤ q2.n := by omega
  have n22 : q2.n ≤ 2 := by omega
  have n23 : (q2.n == 0) = false := by simp; omega
  have n24 : ¬ q2.n = 0 := by omega
  have HQ2 := Lib.hid (And.intro hb2 (And.intro hc2 hd2))
  clear hb2 hc2 hd2 hn2
  generalize pl4 a b c L s 2 (-3) = q3 at *
  obtain ⟨⟨vb31, vb32⟩, ⟨vc31, vc32⟩, ⟨vd31, vd32⟩, hn3, ⟨x30, x31⟩, ⟨x32, x33⟩, ⟨x34, x35⟩⟩ := S3.tw
  have hb3 : (2 * q3.b).tdiv q3.n = tb q3 := rfl
  have hc3 : (2 * q3.c).tdiv q3.n = tc q3 := rfl
  have hd3 : (2 * q3.d).tdiv q3.n = td q3 := rfl
  generalize tb q3 = r30 at *
  generalize tc q3 = r31 at *
  generalize td q3 = r32 at *
  have n31 : 1 ≤ q3.n := by omega
  have n32 : q3.n ≤ 2 := by omega
  have n33 : (q3.n == 0) = false := by simp; omega
  have n34 : ¬ q3.n = 0 := by omega
  have HQ3 := Lib.hid (And.intro hb3 (And.intro hc3 hd3))
  clear hb3 hc3 hd3 hn3
  generalize pl4 a b c L s 2 3 = q4 at *
  obtain ⟨⟨vb41, vb42⟩, ⟨vc41, vc42⟩, ⟨vd41, vd42⟩, hn4, ⟨x40, x41⟩, ⟨x42, x43⟩, ⟨x44, x45⟩⟩ := S4.tw
  have hb4 : (2 * q4.b).tdiv q4.n = tb q4 := rfl
  have hc4 : (2 * q4.c).tdiv q4.n = tc q4 := rfl
  have hd4 : (2 * q4.d).tdiv q4.n = td q4 := rfl
  generalize tb q4 = r40 at *
  generalize tc q4 = r41 at *
  generalize td q4 = r42 at *
  have n41 : 1 ≤ q4.n := by omega
  have n42 : q4.n ≤ 2 := by omega
  have n43 : (q4.n == 0) = false := by simp; omega
  have n44 : ¬ q4.n = 0 := by omega
  have HQ4 := Lib.hid (And.intro hb4 (And.intro hc4 hd4))
  clear hb4 hc4 hd4 hn4
  have hp16 := hF.z.p
  have HL := Lib.hid hl
  have d1 : ((3 * s + 1 : Nat) : Int) / 3 = s := by omega
  have d2 : ((3 * s + 1 : Nat) : Int) % 3 = 1 := by omega
  have d3 : ((3 * s + 1 : Nat) : Int) ≤ 1000 := by omega
  have d4 : (0 : Int) ≤ ((3 * s + 1 : Nat) : Int) := by omega
  clear hl hF hS hd hs0 hs1 hp16 S1 S2 S3 S4
  generalize ((3 * s + 1 : Nat) : Int) = i at *
  have kc := @Tail.cell_re
  have kc1 : ∀ (W : World) (o : Obj) (d : Nat) (os : Array Obj) (a : Addr), a.block ≤ W.heap.size → (Sort.grow (redrawn (W.alloc o) d) os).cell? a = (W.alloc o).cell? a := fun W o d os a h => Tail.cell_re (W.alloc o) d os a (Nat.lt_of_le_of_lt h (by simp))
  go_enter Tryz.func65, Tryz.ntmps65
  go_wp2
  have B0 : FW (((w.alloc (.cells #[.int .i64 a, .int .i64 b, .int .i64 c, .slice (some ⟨bl, off, none⟩) L.length cap] 25)).alloc (.cells #[.int .i64 0, .int .i64 0, .int .i64 0] 22)).alloc (.cells #[.int .i64 0, .int .i64 0, .int .i64 0] 22)) w.heap.size a b c (.slice (some ⟨bl, off, none⟩) L.length cap) := ⟨by simp [go_sem], by simp [go_sem], by simp [go_sem], by simp [go_sem], fun j => by simp [go_sem], by simp <;> omega⟩
  have R0 : T3 (((w.alloc (.cells #[.int .i64 a, .int .i64 b, .int .i64 c, .slice (some ⟨bl, off, none⟩) L.length cap] 25)).alloc (.cells #[.int .i64 0, .int .i64 0, .int .i64 0] 22)).alloc (.cells #[.int .i64 0, .int .i64 0, .int .i64 0] 22)) (w.heap.size + 1) 0 0 0 := ⟨by simp [go_sem], by simp [go_sem], by simp [go_sem], fun j => by simp [go_sem], by simp <;> omega⟩
  have F0 : T3 (((w.alloc (.cells #[.int .i64 a, .int .i64 b, .int .i64 c, .slice (some ⟨bl, off, none⟩) L.length cap] 25)).alloc (.cells #[.int .i64 0, .int .i64 0, .int .i64 0] 22)).alloc (.cells #[.int .i64 0, .int .i64 0, .int .i64 0] 22)) (w.heap.size + 2) 0 0 0 := ⟨by simp [go_sem], by simp [go_sem], by simp [go_sem], fun j => by simp [go_sem], by simp <;> omega⟩
  have G0 : Below w.heap.size w (((w.alloc (.cells #[.int .i64 a, .int .i64 b, .int .i64 c, .slice (some ⟨bl, off, none⟩) L.length cap] 25)).alloc (.cells #[.int .i64 0, .int .i64 0, .int .i64 0] 22)).alloc (.cells #[.int .i64 0, .int .i64 0, .int .i64 0] 22)) := by repeat (first | (with_reducible exact Below.refl _ _) | (with_reducible refine Below.setCell ?_ ?_ _) | (with_reducible refine Below.drew ?_) | (with_reducible refine Below.alloc ?_ ?_ _) | omega | (simp <;> omega))
  have HB0 := Lib.hid B0
  have HR0 := Lib.hid R0
  have HF0 := Lib.hid F0
  have HG0 := Lib.hid G0
  clear B0 R0 F0 G0
  generalize ((w.alloc (.cells #[.int .i64 a, .int .i64 b, .int .i64 c, .slice (some ⟨bl, off, none⟩) L.length cap] 25)).alloc (.cells #[.int .i64 0, .int .i64 0, .int .i64 0] 22)).alloc (.cells #[.int .i64 0, .int .i64 0, .int .i64 0] 22) = X0 at *
  obtain ⟨z, hz1, hz2, HFz⟩ : ∃ z : Int, z ≤ 0 ∧ 0 ≤ z ∧ Hid (T3 X0 (w.heap.size + 2) z z z) := ⟨0, by omega, by omega, HF0⟩
  clear HF0
  have HF0 := HFz
  clear HFz
  refine wp_loop_rounds 4 ?_
  rw [rounds_succ]
  go_wp2
  refine wp_loop_rounds 3 ?_
  rw [rounds_succ]
  obtain ⟨g10, g11, g12, g13, gf1, gl1⟩ := HB0.out
  have hb1 := HG0.out
  go_wp2_with (fail)
  refine (c1 _ _ (HL.out.later (by repeat (first | (with_reducible exact Below.refl _ _) | (with_reducible refine Below.setCell ?_ ?_ _) | (with_reducible refine Below.drew ?_) | (with_reducible refine Below.alloc ?_ ?_ _) | (with_reducible refine Below.trans ?_ (Below.mono hb1 ?_)) | (with_reducible exact hb1.size) | omega | (simp <;> omega) | (simp <;> (have s := hb1.size; omega)) | (have s0 := hb1.size; (try simp at s0); (try simp); omega)))) (lies4I (heap_alloc_new _ _))).mono ?_
  clear c1
  rintro e' V1 ⟨rfl, hv1⟩
  have bv1 : Below X0.heap.size X0 V1 := by repeat (first | (with_reducible exact Below.refl _ _) | (with_reducible refine Below.setCell ?_ ?_ _) | (with_reducible refine Below.drew ?_) | (with_reducible refine Below.alloc ?_ ?_ _) | (with_reducible refine Below.trans ?_ (Below.mono hv1 ?_)) | (with_reducible exact hv1.size) | omega | (simp <;> omega) | (simp <;> (have s := hv1.size; omega)) | (have s0 := hv1.size; (try simp at s0); (try simp); omega))
  have U1 : UP (V1.alloc (.cells #[.int .i64 q1.a, .int .i64 q1.b, .int .i64 q1.c, .int .i64 q1.d, .int .i64 q1.n] 40)) V1.heap.size q1 := ⟨by simp [go_sem], by simp [go_sem], by simp [go_sem], by simp [go_sem], by simp⟩
  have ba1 : Below X0.heap.size X0 (V1.alloc (.cells #[.int .i64 q1.a, .int .i64 q1.b, .int .i64 q1.c, .int .i64 q1.d, .int .i64 q1.n] 40)) := by repeat (first | (with_reducible exact Below.refl _ _) | (with_reducible refine Below.setCell ?_ ?_ _) | (with_reducible refine Below.drew ?_) | (with_reducible refine Below.alloc ?_ ?_ _) | (with_reducible refine Below.trans ?_ (Below.mono bv1 ?_)) | (with_reducible exact bv1.size) | omega | (simp <;> omega) | (simp <;> (have s := bv1.size; omega)) | (have s0 := bv1.size; (try simp at s0); (try simp); omega))
  have ls1 : X0.heap.size ≤ V1.heap.size := bv1.size
  have HF1a := Lib.hid (HF0.out.later ba1)
  have HR1a := Lib.hid (HR0.out.later ba1)
  have HB1a := Lib.hid (HB0.out.later ba1)
  have HG1a := Lib.hid (HG0.out.trans (ba1.mono HG0.out.size))
  have HU1a := Lib.hid U1
  have gF1 := HF0.out.lt
  clear g10 g11 g12 g13 gf1 gl1 hb1 hv1 bv1 U1 ba1 HF0 HR0 HB0 HG0
  go_wp2
  generalize V1.alloc (.cells #[.int .i64 q1.a, .int .i64 q1.b, .int .i64 q1.c, .int .i64 q1.d, .int .i64 q1.n] 40) = A1 at *
  obtain ⟨p101, p102, p103, p104, pl10⟩ := HU1a.out
  have f10 := HF1a.out.c0
  have fl10 := HF1a.out.lt
  have qb10 := HQ1.out.1
  refine Tail.region_tail_below 10 (by kernel_rfl) (by kernel_rfl) ?_
  simp only [List.take_succ_cons, List.take_zero]
  repeat (go_big_quiet_step (fail))
  refine wpQuiet_nil ?_
  intro Z10 hz10
  have F10z := HF1a.out.later hz10
  have U10z := HU1a.out.later hz10
  have R10z := HR1a.out.later hz10
  have B10z := HB1a.out.later hz10
  have G10z := HG1a.out.trans (hz10.mono HG1a.out.size)
  have hf10 := F10z.c0
  have hff10 := F10z.free
  have hfl10 := F10z.lt
  clear p101 p102 p103 p104 pl10 f10 fl10 qb10
  obtain ⟨u10, hu10⟩ : ∃ u : Int, z + r10 = u := ⟨_, rfl⟩
  have y10 : -2 ≤ u10 := by omega
  have yy10 : u10 ≤ 2 := by omega
  have Gs10 := grown_setCell Z10 ⟨w.heap.size + 2, 0, none⟩ (.int .i64 u10)
  have HF1b := Lib.hid (F10z.put0 u10)
  have HU1b := Lib.hid (U10z.far Gs10 (by simp; omega))
  have HR1b := Lib.hid (R10z.far Gs10 (by simp))
  have HB1b := Lib.hid (B10z.grown Gs10 (by simp))
  have HG1b := Lib.hid (G10z.setCell (p := ⟨w.heap.size + 2, 0, none⟩) (by simp) (.int .i64 u10))
  clear F10z U10z R10z B10z G10z Gs10 HF1a HU1a HR1a HB1a HG1a hz10
  go_wp2
  have HW10 := Lib.hid hu10
  clear hu10 hf10 hff10 hfl10
  generalize Z10.setCell ⟨w.heap.size + 2, 0, none⟩ (.int .i64 u10) = Y10 at *
  obtain ⟨p111, p112, p113, p114, pl11⟩ := HU1b.out
  have f11 := HF1b.out.c1
  have fl11 := HF1b.out.lt
  have qb11 := HQ1.out.2.1
  refine Tail.region_tail_below 10 (by kernel_rfl) (by kernel_rfl) ?_
  simp only [List.take_succ_cons, List.take_zero]
  repeat (go_big_quiet_step (fail))
  refine wpQuiet_nil ?_
  intro Z11 hz11
  have F11z := HF1b.out.later hz11
  have U11z := HU1b.out.later hz11
  have R11z := HR1b.out.later hz11
  have B11z := HB1b.out.later hz11
  have G11z := HG1b.out.trans (hz11.mono HG1b.out.size)
  have hf11 := F11z.c1
  have hff11 := F11z.free
  have hfl11 := F11z.lt
  clear p111 p112 p113 p114 pl11 f11 fl11 qb11
  obtain ⟨u11, hu11⟩ : ∃ u : Int, z + r11 = u := ⟨_, rfl⟩
  have y11 : -2 ≤ u11 := by omega
  have yy11 : u11 ≤ 2 := by omega
  have Gs11 := grown_setCell Z11 ⟨w.heap.size + 2, 1, none⟩ (.int .i64 u11)
  have HF1c := Lib.hid (F11z.put1 u11)
  have HU1c := Lib.hid (U11z.far Gs11 (by simp; omega))
  have HR1c := Lib.hid (R11z.far Gs11 (by simp))
  have HB1c := Lib.hid (B11z.grown Gs11 (by simp))
  have HG1c := Lib.hid (G11z.setCell (p := ⟨w.heap.size + 2, 1, none⟩) (by simp) (.int .i64 u11))
  clear F11z U11z R11z B11z G11z Gs11 HF1b HU1b HR1b HB1b HG1b hz11
  go_wp2
  have HW11 := Lib.hid hu11
  clear hu11 hf11 hff11 hfl11
  generalize Z11.setCell ⟨w.heap.size + 2, 1, none⟩ (.int .i64 u11) = Y11 at *
  obtain ⟨p121, p122, p123, p124, pl12⟩ := HU1c.out
  have f12 := HF1c.out.c2
  have fl12 := HF1c.out.lt
  have qb12 := HQ1.out.2.2
  refine Tail.region_tail_below 10 (by kernel_rfl) (by kernel_rfl) ?_
  simp only [List.take_succ_cons, List.take_zero]
  repeat (go_big_quiet_step (fail))
  refine wpQuiet_nil ?_
  intro Z12 hz12
  have F12z := HF1c.out.later hz12
  have U12z := HU1c.out.later hz12
  have R12z := HR1c.out.later hz12
  have B12z := HB1c.out.later hz12
  have G12z := HG1c.out.trans (hz12.mono HG1c.out.size)
  have hf12 := F12z.c2
  have hff12 := F12z.free
  have hfl12 := F12z.lt
  clear p121 p122 p123 p124 pl12 f12 fl12 qb12
  obtain ⟨u12, hu12⟩ : ∃ u : Int, z + r12 = u := ⟨_, rfl⟩
  have y12 : -2 ≤ u12 := by omega
  have yy12 : u12 ≤ 2 := by omega
  have Gs12 := grown_setCell Z12 ⟨w.heap.size + 2, 2, none⟩ (.int .i64 u12)
  have HF1d := Lib.hid (F12z.put2 u12)
  have HU1d := Lib.hid (U12z.far Gs12 (by simp; omega))
  have HR1d := Lib.hid (R12z.far Gs12 (by simp))
  have HB1d := Lib.hid (B12z.grown Gs12 (by simp))
  have HG1d := Lib.hid (G12z.setCell (p := ⟨w.heap.size + 2, 2, none⟩) (by simp) (.int .i64 u12))
  clear F12z U12z R12z B12z G12z Gs12 HF1c HU1c HR1c HB1c HG1c hz12
  go_wp2
  have HW12 := Lib.hid hu12
  clear hu12 hf12 hff12 hfl12
  generalize Z12.setCell ⟨w.heap.size + 2, 2, none⟩ (.int .i64 u12) = X1 at *
  have HF1 := HF1d
  have HR1 := HR1d
  have HB1 := HB1d
  have HG1 := HG1d
  clear HF1d HR1d HB1d HG1d HU1d
  rw [rounds_succ]
  obtain ⟨g20, g21, g22, g23, gf2, gl2⟩ := HB1.out
  have hb2 := HG1.out
  go_wp2_with (fail)
  refine (c2 _ _ (HL.out.later (by repeat (first | (with_reducible exact Below.refl _ _) | (with_reducible refine Below.setCell ?_ ?_ _) | (with_reducible refine Below.drew ?_) | (with_reducible refine Below.alloc ?_ ?_ _) | (with_reducible refine Below.trans ?_ (Below.mono hb2 ?_)) | (with_reducible exact hb2.size) | omega | (simp <;> omega) | (simp <;> (have s := hb2.size; omega)) | (have s0 := hb2.size; (try simp at s0); (try simp); omega)))) (lies4I (heap_alloc_new _ _))).mono ?_
  clear c2
  rintro e' V2 ⟨rfl, hv2⟩
  have bv2 : Below X1.heap.size X1 V2 := by repeat (first | (with_reducible exact Below.refl _ _) | (with_reducible refine Below.setCell ?_ ?_ _) | (with_reducible refine Below.drew ?_) | (with_reducible refine Below.alloc ?_ ?_ _) | (with_reducible refine Below.trans ?_ (Below.mono hv2 ?_)) | (with_reducible exact hv2.size) | omega | (simp <;> omega) | (simp <;> (have s := hv2.size; omega)) | (have s0 := hv2.size; (try simp at s0); (try simp); omega))
  have U2 : UP (V2.alloc (.cells #[.int .i64 q2.a, .int .i64 q2.b, .int .i64 q2.c, .int .i64 q2.d, .int .i64 q2.n] 40)) V2.heap.size q2 := ⟨by simp [go_sem], by simp [go_sem], by simp [go_sem], by simp [go_sem], by simp⟩
  have ba2 : Below X1.heap.size X1 (V2.alloc (.cells #[.int .i64 q2.a, .int .i64 q2.b, .int .i64 q2.c, .int .i64 q2.d, .int .i64 q2.n] 40)) := by repeat (first | (with_reducible exact Below.refl _ _) | (with_reducible refine Below.setCell ?_ ?_ _) | (with_reducible refine Below.drew ?_) | (with_reducible refine Below.alloc ?_ ?_ _) | (with_reducible refine Below.trans ?_ (Below.mono bv2 ?_)) | (with_reducible exact bv2.size) | omega | (simp <;> omega) | (simp <;> (have s := bv2.size; omega)) | (have s0 := bv2.size; (try simp at s0); (try simp); omega))
  have ls2 : X1.heap.size ≤ V2.heap.size := bv2.size
  have HF2a := Lib.hid (HF1.out.later ba2)
  have HR2a := Lib.hid (HR1.out.later ba2)
  have HB2a := Lib.hid (HB1.out.later ba2)
  have HG2a := Lib.hid (HG1.out.trans (ba2.mono HG1.out.size))
  have HU2a := Lib.hid U2
  have gF2 := HF1.out.lt
  clear g20 g21 g22 g23 gf2 gl2 hb2 hv2 bv2 U2 ba2 HF1 HR1 HB1 HG1
  go_wp2
  generalize V2.alloc (.cells #[.int .i64 q2.a, .int .i64 q2.b, .int .i64 q2.c, .int .i64 q2.d, .int .i64 q2.n] 40) = A2 at *
  obtain ⟨p201, p202, p203, p204, pl20⟩ := HU2a.out
  have f20 := HF2a.out.c0
  have fl20 := HF2a.out.lt
  have qb20 := HQ2.out.1
  refine Tail.region_tail_below 10 (by kernel_rfl) (by kernel_rfl) ?_
  simp only [List.take_succ_cons, List.take_zero]
  repeat (go_big_quiet_step (fail))
  refine wpQuiet_nil ?_
  intro Z20 hz20
  have F20z := HF2a.out.later hz20
  have U20z := HU2a.out.later hz20
  have R20z := HR2a.out.later hz20
  have B20z := HB2a.out.later hz20
  have G20z := HG2a.out.trans (hz20.mono HG2a.out.size)
  have hf20 := F20z.c0
  have hff20 := F20z.free
  have hfl20 := F20z.lt
  clear p201 p202 p203 p204 pl20 f20 fl20 qb20
  obtain ⟨u20, hu20⟩ : ∃ u : Int, u10 + r20 = u := ⟨_, rfl⟩
  have y20 : -4 ≤ u20 := by omega
  have yy20 : u20 ≤ 4 := by omega
  have Gs20 := grown_setCell Z20 ⟨w.heap.size + 2, 0, none⟩ (.int .i64 u20)
  have HF2b := Lib.hid (F20z.put0 u20)
  have HU2b := Lib.hid (U20z.far Gs20 (by simp; omega))
  have HR2b := Lib.hid (R20z.far Gs20 (by simp))
  have HB2b := Lib.hid (B20z.grown Gs20 (by simp))
  have HG2b := Lib.hid (G20z.setCell (p := ⟨w.heap.size + 2, 0, none⟩) (by simp) (.int .i64 u20))
  clear F20z U20z R20z B20z G20z Gs20 HF2a HU2a HR2a HB2a HG2a hz20
  go_wp2
  have HW20 := Lib.hid hu20
  clear hu20 hf20 hff20 hfl20
  generalize Z20.setCell ⟨w.heap.size + 2, 0, none⟩ (.int .i64 u20) = Y20 at *
  obtain ⟨p211, p212, p213, p214, pl21⟩ := HU2b.out
  have f21 := HF2b.out.c1
  have fl21 := HF2b.out.lt
  have qb21 := HQ2.out.2.1
  refine Tail.region_tail_below 10 (by kernel_rfl) (by kernel_rfl) ?_
  simp only [List.take_succ_cons, List.take_zero]
  repeat (go_big_quiet_step (fail))
  refine wpQuiet_nil ?_
  intro Z21 hz21
  have F21z := HF2b.out.later hz21
  have U21z := HU2b.out.later hz21
  have R21z := HR2b.out.later hz21
  have B21z := HB2b.out.later hz21
  have G21z := HG2b.out.trans (hz21.mono HG2b.out.size)
  have hf21 := F21z.c1
  have hff21 := F21z.free
  have hfl21 := F21z.lt
  clear p211 p212 p213 p214 pl21 f21 fl21 qb21
  obtain ⟨u21, hu21⟩ : ∃ u : Int, u11 + r21 = u := ⟨_, rfl⟩
  have y21 : -4 ≤ u21 := by omega
  have yy21 : u21 ≤ 4 := by omega
  have Gs21 := grown_setCell Z21 ⟨w.heap.size + 2, 1, none⟩ (.int .i64 u21)
  have HF2c := Lib.hid (F21z.put1 u21)
  have HU2c := Lib.hid (U21z.far Gs21 (by simp; omega))
  have HR2c := Lib.hid (R21z.far Gs21 (by simp))
  have HB2c := Lib.hid (B21z.grown Gs21 (by simp))
  have HG2c := Lib.hid (G21z.setCell (p := ⟨w.heap.size + 2, 1, none⟩) (by simp) (.int .i64 u21))
  clear F21z U21z R21z B21z G21z Gs21 HF2b HU2b HR2b HB2b HG2b hz21
  go_wp2
  have HW21 := Lib.hid hu21
  clear hu21 hf21 hff21 hfl21
  generalize Z21.setCell ⟨w.heap.size + 2, 1, none⟩ (.int .i64 u21) = Y21 at *
  obtain ⟨p221, p222, p223, p224, pl22⟩ := HU2c.out
  have f22 := HF2c.out.c2
  have fl22 := HF2c.out.lt
  have qb22 := HQ2.out.2.2
  refine Tail.region_tail_below 10 (by kernel_rfl) (by kernel_rfl) ?_
  simp only [List.take_succ_cons, List.take_zero]
  repeat (go_big_quiet_step (fail))
  refine wpQuiet_nil ?_
  intro Z22 hz22
  have F22z := HF2c.out.later hz22
  have U22z := HU2c.out.later hz22
  have R22z := HR2c.out.later hz22
  have B22z := HB2c.out.later hz22
  have G22z := HG2c.out.trans (hz22.mono HG2c.out.size)
  have hf22 := F22z.c2
  have hff22 := F22z.free
  have hfl22 := F22z.lt
  clear p221 p222 p223 p224 pl22 f22 fl22 qb22
  obtain ⟨u22, hu22⟩ : ∃ u : Int, u12 + r22 = u := ⟨_, rfl⟩
  have y22 : -4 ≤ u22 := by omega
  have yy22 : u22 ≤ 4 := by omega
  have Gs22 := grown_setCell Z22 ⟨w.heap.size + 2, 2, none⟩ (.int .i64 u22)
  have HF2d := Lib.hid (F22z.put2 u22)
  have HU2d := Lib.hid (U22z.far Gs22 (by simp; omega))
  have HR2d := Lib.hid (R22z.far Gs22 (by simp))
  have HB2d := Lib.hid (B22z.grown Gs22 (by simp))
  have HG2d := Lib.hid (G22z.setCell (p := ⟨w.heap.size + 2, 2, none⟩) (by simp) (.int .i64 u22))
  clear F22z U22z R22z B22z G22z Gs22 HF2c HU2c HR2c HB2c HG2c hz22
  go_wp2
  have HW22 := Lib.hid hu22
  clear hu22 hf22 hff22 hfl22
  generalize Z22.setCell ⟨w.heap.size + 2, 2, none⟩ (.int .i64 u22) = X2 at *
  have HF2 := HF2d
  have HR2 := HR2d
  have HB2 := HB2d
  have HG2 := HG2d
  clear HF2d HR2d HB2d HG2d HU2d
  rw [rounds_succ]
  go_wp2
  rw [rounds_succ]
  go_wp2
  rw [rounds_succ]
  go_wp2
  refine wp_loop_rounds 3 ?_
  rw [rounds_succ]
  obtain ⟨g30, g31, g32, g33, gf3, gl3⟩ := HB2.out
  have hb3 := HG2.out
  go_wp2_with (fail)
  refine (c3 _ _ (HL.out.later (by repeat (first | (with_reducible exact Below.refl _ _) | (with_reducible refine Below.setCell ?_ ?_ _) | (with_reducible refine Below.drew ?_) | (with_reducible refine Below.alloc ?_ ?_ _) | (with_reducible refine Below.trans ?_ (Below.mono hb3 ?_)) | (with_reducible exact hb3.size) | omega | (simp <;> omega) | (simp <;> (have s := hb3.size; omega)) | (have s0 := hb3.size; (try simp at s0); (try simp); omega)))) (lies4I (heap_alloc_new _ _))).mono ?_
  clear c3
  rintro e' V3 ⟨rfl, hv3⟩
  have bv3 : Below X2.heap.size X2 V3 := by repeat (first | (with_reducible exact Below.refl _ _) | (with_reducible refine Below.setCell ?_ ?_ _) | (with_reducible refine Below.drew ?_) | (with_reducible refine Below.alloc ?_ ?_ _) | (with_reducible refine Below.trans ?_ (Below.mono hv3 ?_)) | (with_reducible exact hv3.size) | omega | (simp <;> omega) | (simp <;> (have s := hv3.size; omega)) | (have s0 := hv3.size; (try simp at s0); (try simp); omega))
  have U3 : UP (V3.alloc (.cells #[.int .i64 q3.a, .int .i64 q3.b, .int .i64 q3.c, .int .i64 q3.d, .int .i64 q3.n] 40)) V3.heap.size q3 := ⟨by simp [go_sem], by simp [go_sem], by simp [go_sem], by simp [go_sem], by simp⟩
  have ba3 : Below X2.heap.size X2 (V3.alloc (.cells #[.int .i64 q3.a, .int .i64 q3.b, .int .i64 q3.c, .int .i64 q3.d, .int .i64 q3.n] 40)) := by repeat (first | (with_reducible exact Below.refl _ _) | (with_reducible refine Below.setCell ?_ ?_ _) | (with_reducible refine Below.drew ?_) | (with_reducible refine Below.alloc ?_ ?_ _) | (with_reducible refine Below.trans ?_ (Below.mono bv3 ?_)) | (with_reducible exact bv3.size) | omega | (simp <;> omega) | (simp <;> (have s := bv3.size; omega)) | (have s0 := bv3.size; (try simp at s0); (try simp); omega))
  have ls3 : X2.heap.size ≤ V3.heap.size := bv3.size
  have HF3a := Lib.hid (HF2.out.later ba3)
  have HR3a := Lib.hid (HR2.out.later ba3)
  have HB3a := Lib.hid (HB2.out.later ba3)
  have HG3a := Lib.hid (HG2.out.trans (ba3.mono HG2.out.size))
  have HU3a := Lib.hid U3
  have gF3 := HF2.out.lt
  clear g30 g31 g32 g33 gf3 gl3 hb3 hv3 bv3 U3 ba3 HF2 HR2 HB2 HG2
  go_wp2
  generalize V3.alloc (.cells #[.int .i64 q3.a, .int .i64 q3.b, .int .i64 q3.c, .int .i64 q3.d, .int .i64 q3.n] 40) = A3 at *
  obtain ⟨p301, p302, p303, p304, pl30⟩ := HU3a.out
  have f30 := HF3a.out.c0
  have fl30 := HF3a.out.lt
  have qb30 := HQ3.out.1
  refine Tail.region_tail_below 10 (by kernel_rfl) (by kernel_rfl) ?_
  simp only [List.take_succ_cons, List.take_zero]
  repeat (go_big_quiet_step (fail))
  refine wpQuiet_nil ?_
  intro Z30 hz30
  have F30z := HF3a.out.later hz30
  have U30z := HU3a.out.later hz30
  have R30z := HR3a.out.later hz30
  have B30z := HB3a.out.later hz30
  have G30z := HG3a.out.trans (hz30.mono HG3a.out.size)
  have hf30 := F30z.c0
  have hff30 := F30z.free
  have hfl30 := F30z.lt
  clear p301 p302 p303 p304 pl30 f30 fl30 qb30
  obtain ⟨u30, hu30⟩ : ∃ u : Int, u20 + r30 = u := ⟨_, rfl⟩
  have y30 : -6 ≤ u30 := by omega
  have yy30 : u30 ≤ 6 := by omega
  have Gs30 := grown_setCell Z30 ⟨w.heap.size + 2, 0, none⟩ (.int .i64 u30)
  have HF3b := Lib.hid (F30z.put0 u30)
  have HU3b := Lib.hid (U30z.far Gs30 (by simp; omega))
  have HR3b := Lib.hid (R30z.far Gs30 (by simp))
  have HB3b := Lib.hid (B30z.grown Gs30 (by simp))
  have HG3b := Lib.hid (G30z.setCell (p := ⟨w.heap.size + 2, 0, none⟩) (by simp) (.int .i64 u30))
  clear F30z U30z R30z B30z G30z Gs30 HF3a HU3a HR3a HB3a HG3a hz30
  go_wp2
  have HW30 := Lib.hid hu30
  clear hu30 hf30 hff30 hfl30
  generalize Z30.setCell ⟨w.heap.size + 2, 0, none⟩ (.int .i64 u30) = Y30 at *
  obtain ⟨p311, p312, p313, p314, pl31⟩ := HU3b.out
  have f31 := HF3b.out.c1
  have fl31 := HF3b.out.lt
  have qb31 := HQ3.out.2.1
  refine Tail.region_tail_below 10 (by kernel_rfl) (by kernel_rfl) ?_
  simp only [List.take_succ_cons, List.take_zero]
  repeat (go_big_quiet_step (fail))
  refine wpQuiet_nil ?_
  intro Z31 hz31
  have F31z := HF3b.out.later hz31
  have U31z := HU3b.out.later hz31
  have R31z := HR3b.out.later hz31
  have B31z := HB3b.out.later hz31
  have G31z := HG3b.out.trans (hz31.mono HG3b.out.size)
  have hf31 := F31z.c1
  have hff31 := F31z.free
  have hfl31 := F31z.lt
  clear p311 p312 p313 p314 pl31 f31 fl31 qb31
  obtain ⟨u31, hu31⟩ : ∃ u : Int, u21 + r31 = u := ⟨_, rfl⟩
  have y31 : -6 ≤ u31 := by omega
  have yy31 : u31 ≤ 6 := by omega
  have Gs31 := grown_setCell Z31 ⟨w.heap.size + 2, 1, none⟩ (.int .i64 u31)
  have HF3c := Lib.hid (F31z.put1 u31)
  have HU3c := Lib.hid (U31z.far Gs31 (by simp; omega))
  have HR3c := Lib.hid (R31z.far Gs31 (by simp))
  have HB3c := Lib.hid (B31z.grown Gs31 (by simp))
  have HG3c := Lib.hid (G31z.setCell (p := ⟨w.heap.size + 2, 1, none⟩) (by simp) (.int .i64 u31))
  clear F31z U31z R31z B31z G31z Gs31 HF3b HU3b HR3b HB3b HG3b hz31
  go_wp2
  have HW31 := Lib.hid hu31
  clear hu31 hf31 hff31 hfl31
  generalize Z31.setCell ⟨w.heap.size + 2, 1, none⟩ (.int .i64 u31) = Y31 at *
  obtain ⟨p321, p322, p323, p324, pl32⟩ := HU3c.out
  have f32 := HF3c.out.c2
  have fl32 := HF3c.out.lt
  have qb32 := HQ3.out.2.2
  refine Tail.region_tail_below 10 (by kernel_rfl) (by kernel_rfl) ?_
  simp only [List.take_succ_cons, List.take_zero]
  repeat (go_big_quiet_step (fail))
  refine wpQuiet_nil ?_
  intro Z32 hz32
  have F32z := HF3c.out.later hz32
  have U32z := HU3c.out.later hz32
  have R32z := HR3c.out.later hz32
  have B32z := HB3c.out.later hz32
  have G32z := HG3c.out.trans (hz32.mono HG3c.out.size)
  have hf32 := F32z.c2
  have hff32 := F32z.free
  have hfl32 := F32z.lt
  clear p321 p322 p323 p324 pl32 f32 fl32 qb32
  obtain ⟨u32, hu32⟩ : ∃ u : Int, u22 + r32 = u := ⟨_, rfl⟩
  have y32 : -6 ≤ u32 := by omega
  have yy32 : u32 ≤ 6 := by omega
  have Gs32 := grown_setCell Z32 ⟨w.heap.size + 2, 2, none⟩ (.int .i64 u32)
  have HF3d := Lib.hid (F32z.put2 u32)
  have HU3d := Lib.hid (U32z.far Gs32 (by simp; omega))
  have HR3d := Lib.hid (R32z.far Gs32 (by simp))
  have HB3d := Lib.hid (B32z.grown Gs32 (by simp))
  have HG3d := Lib.hid (G32z.setCell (p := ⟨w.heap.size + 2, 2, none⟩) (by simp) (.int .i64 u32))
  clear F32z U32z R32z B32z G32z Gs32 HF3c HU3c HR3c HB3c HG3c hz32
  go_wp2
  have HW32 := Lib.hid hu32
  clear hu32 hf32 hff32 hfl32
  generalize Z32.setCell ⟨w.heap.size + 2, 2, none⟩ (.int .i64 u32) = X3 at *
  have HF3 := HF3d
  have HR3 := HR3d
  have HB3 := HB3d
  have HG3 := HG3d
  clear HF3d HR3d HB3d HG3d HU3d
  rw [rounds_succ]
  obtain ⟨g40, g41, g42, g43, gf4, gl4⟩ := HB3.out
  have hb4 := HG3.out
  go_wp2_with (fail)
  refine (c4 _ _ (HL.out.later (by repeat (first | (with_reducible exact Below.refl _ _) | (with_reducible refine Below.setCell ?_ ?_ _) | (with_reducible refine Below.drew ?_) | (with_reducible refine Below.alloc ?_ ?_ _) | (with_reducible refine Below.trans ?_ (Below.mono hb4 ?_)) | (with_reducible exact hb4.size) | omega | (simp <;> omega) | (simp <;> (have s := hb4.size; omega)) | (have s0 := hb4.size; (try simp at s0); (try simp); omega)))) (lies4I (heap_alloc_new _ _))).mono ?_
  clear c4
  rintro e' V4 ⟨rfl, hv4⟩
  have bv4 : Below X3.heap.size X3 V4 := by repeat (first | (with_reducible exact Below.refl _ _) | (with_reducible refine Below.setCell ?_ ?_ _) | (with_reducible refine Below.drew ?_) | (with_reducible refine Below.alloc ?_ ?_ _) | (with_reducible refine Below.trans ?_ (Below.mono hv4 ?_)) | (with_reducible exact hv4.size) | omega | (simp <;> omega) | (simp <;> (have s := hv4.size; omega)) | (have s0 := hv4.size; (try simp at s0); (try simp); omega))
  have U4 : UP (V4.alloc (.cells #[.int .i64 q4.a, .int .i64 q4.b, .int .i64 q4.c, .int .i64 q4.d, .int .i64 q4.n] 40)) V4.heap.size q4 := ⟨by simp [go_sem], by simp [go_sem], by simp [go_sem], by simp [go_sem], by simp⟩
  have ba4 : Below X3.heap.size X3 (V4.alloc (.cells #[.int .i64 q4.a, .int .i64 q4.b, .int .i64 q4.c, .int .i64 q4.d, .int .i64 q4.n] 40)) := by repeat (first | (with_reducible exact Below.refl _ _) | (with_reducible refine Below.setCell ?_ ?_ _) | (with_reducible refine Below.drew ?_) | (with_reducible refine Below.alloc ?_ ?_ _) | (with_reducible refine Below.trans ?_ (Below.mono bv4 ?_)) | (with_reducible exact bv4.size) | omega | (simp <;> omega) | (simp <;> (have s := bv4.size; omega)) | (have s0 := bv4.size; (try simp at s0); (try simp); omega))
  have ls4 : X3.heap.size ≤ V4.heap.size := bv4.size
  have HF4a := Lib.hid (HF3.out.later ba4)
  have HR4a := Lib.hid (HR3.out.later ba4)
  have HB4a := Lib.hid (HB3.out.later ba4)
  have HG4a := Lib.hid (HG3.out.trans (ba4.mono HG3.out.size))
  have HU4a := Lib.hid U4
  have gF4 := HF3.out.lt
  clear g40 g41 g42 g43 gf4 gl4 hb4 hv4 bv4 U4 ba4 HF3 HR3 HB3 HG3
  go_wp2
  generalize V4.alloc (.cells #[.int .i64 q4.a, .int .i64 q4.b, .int .i64 q4.c, .int .i64 q4.d, .int .i64 q4.n] 40) = A4 at *
  obtain ⟨p401, p402, p403, p404, pl40⟩ := HU4a.out
  have f40 := HF4a.out.c0
  have fl40 := HF4a.out.lt
  have qb40 := HQ4.out.1
  refine Tail.region_tail_below 10 (by kernel_rfl) (by kernel_rfl) ?_
  simp only [List.take_succ_cons, List.take_zero]
  repeat (go_big_quiet_step (fail))
  refine wpQuiet_nil ?_
  intro Z40 hz40
  have F40z := HF4a.out.later hz40
  have U40z := HU4a.out.later hz40
  have R40z := HR4a.out.later hz40
  have B40z := HB4a.out.later hz40
  have G40z := HG4a.out.trans (hz40.mono HG4a.out.size)
  have hf40 := F40z.c0
  have hff40 := F40z.free
  have hfl40 := F40z.lt
  clear p401 p402 p403 p404 pl40 f40 fl40 qb40
  obtain ⟨u40, hu40⟩ : ∃ u : Int, u30 + r40 = u := ⟨_, rfl⟩
  have y40 : -8 ≤ u40 := by omega
  have yy40 : u40 ≤ 8 := by omega
  have Gs40 := grown_setCell Z40 ⟨w.heap.size + 2, 0, none⟩ (.int .i64 u40)
  have HF4b := Lib.hid (F40z.put0 u40)
  have HU4b := Lib.hid (U40z.far Gs40 (by simp; omega))
  have HR4b := Lib.hid (R40z.far Gs40 (by simp))
  have HB4b := Lib.hid (B40z.grown Gs40 (by simp))
  have HG4b := Lib.hid (G40z.setCell (p := ⟨w.heap.size + 2, 0, none⟩) (by simp) (.int .i64 u40))
  clear F40z U40z R40z B40z G40z Gs40 HF4a HU4a HR4a HB4a HG4a hz40
  go_wp2
  have HW40 := Lib.hid hu40
  clear hu40 hf40 hff40 hfl40
  generalize Z40.setCell ⟨w.heap.size + 2, 0, none⟩ (.int .i64 u40) = Y40 at *
  obtain ⟨p411, p412, p413, p414, pl41⟩ := HU4b.out
  have f41 := HF4b.out.c1
  have fl41 := HF4b.out.lt
  have qb41 := HQ4.out.2.1
  refine Tail.region_tail_below 10 (by kernel_rfl) (by kernel_rfl) ?_
  simp only [List.take_succ_cons, List.take_zero]
  repeat (go_big_quiet_step (fail))
  refine wpQuiet_nil ?_
  intro Z41 hz41
  have F41z := HF4b.out.later hz41
  have U41z := HU4b.out.later hz41
  have R41z := HR4b.out.later hz41
  have B41z := HB4b.out.later hz41
  have G41z := HG4b.out.trans (hz41.mono HG4b.out.size)
  have hf41 := F41z.c1
  have hff41 := F41z.free
  have hfl41 := F41z.lt
  clear p411 p412 p413 p414 pl41 f41 fl41 qb41
  obtain ⟨u41, hu41⟩ : ∃ u : Int, u31 + r41 = u := ⟨_, rfl⟩
  have y41 : -8 ≤ u41 := by omega
  have yy41 : u41 ≤ 8 := by omega
  have Gs41 := grown_setCell Z41 ⟨w.heap.size + 2, 1, none⟩ (.int .i64 u41)
  have HF4c := Lib.hid (F41z.put1 u41)
  have HU4c := Lib.hid (U41z.far Gs41 (by simp; omega))
  have HR4c := Lib.hid (R41z.far Gs41 (by simp))
  have HB4c := Lib.hid (B41z.grown Gs41 (by simp))
  have HG4c := Lib.hid (G41z.setCell (p := ⟨w.heap.size + 2, 1, none⟩) (by simp) (.int .i64 u41))
  clear F41z U41z R41z B41z G41z Gs41 HF4b HU4b HR4b HB4b HG4b hz41
  go_wp2
  have HW41 := Lib.hid hu41
  clear hu41 hf41 hff41 hfl41
  generalize Z41.setCell ⟨w.heap.size + 2, 1, none⟩ (.int .i64 u41) = Y41 at *
  obtain ⟨p421, p422, p423, p424, pl42⟩ := HU4c.out
  have f42 := HF4c.out.c2
  have fl42 := HF4c.out.lt
  have qb42 := HQ4.out.2.2
  refine Tail.region_tail_below 10 (by kernel_rfl) (by kernel_rfl) ?_
  simp only [List.take_succ_cons, List.take_zero]
  repeat (go_big_quiet_step (fail))
  refine wpQuiet_nil ?_
  intro Z42 hz42
  have F42z := HF4c.out.later hz42
  have U42z := HU4c.out.later hz42
  have R42z := HR4c.out.later hz42
  have B42z := HB4c.out.later hz42
  have G42z := HG4c.out.trans (hz42.mono HG4c.out.size)
  have hf42 := F42z.c2
  have hff42 := F42z.free
  have hfl42 := F42z.lt
  clear p421 p422 p423 p424 pl42 f42 fl42 qb42
  obtain ⟨u42, hu42⟩ : ∃ u : Int, u32 + r42 = u := ⟨_, rfl⟩
  have y42 : -8 ≤ u42 := by omega
  have yy42 : u42 ≤ 8 := by omega
  have Gs42 := grown_setCell Z42 ⟨w.heap.size + 2, 2, none⟩ (.int .i64 u42)
  have HF4d := Lib.hid (F42z.put2 u42)
  have HU4d := Lib.hid (U42z.far Gs42 (by simp; omega))
  have HR4d := Lib.hid (R42z.far Gs42 (by simp))
  have HB4d := Lib.hid (B42z.grown Gs42 (by simp))
  have HG4d := Lib.hid (G42z.setCell (p := ⟨w.heap.size + 2, 2, none⟩) (by simp) (.int .i64 u42))
  clear F42z U42z R42z B42z G42z Gs42 HF4c HU4c HR4c HB4c HG4c hz42
  go_wp2
  have HW42 := Lib.hid hu42
  clear hu42 hf42 hff42 hfl42
  generalize Z42.setCell ⟨w.heap.size + 2, 2, none⟩ (.int .i64 u42) = X4 at *
  have HF4 := HF4d
  have HR4 := HR4d
  have HB4 := HB4d
  have HG4 := HG4d
  clear HF4d HR4d HB4d HG4d HU4d
  rw [rounds_succ]
  go_wp2
  rw [rounds_succ]
  have rr0 := HR4.out.c0
  have rr1 := HR4.out.c1
  have rr2 := HR4.out.c2
  have rf := HR4.out.free
  have rl := HR4.out.lt
  have f0 := HF4.out.c0
  have f1 := HF4.out.c1
  have f2 := HF4.out.c2
  have fl := HF4.out.lt
  go_wp2
  have w0 : r20 + r10 + r40 + r30 = u40 := by have := HW10.out; have := HW20.out; have := HW30.out; have := HW40.out; omega
  have w1 : r21 + r11 + r41 + r31 = u41 := by have := HW11.out; have := HW21.out; have := HW31.out; have := HW41.out; omega
  have w2 : r22 + r12 + r42 + r32 = u42 := by have := HW12.out; have := HW22.out; have := HW32.out; have := HW42.out; omega
  rw [w0, w1, w2]
  refine bodyPost_ret (v := .agg #[.int .i64 u40, .int .i64 u41, .int .i64 u42]) (by simp [results, Tryz.results65, go_sem, rr0, rr1, rr2, rf, rl]) rfl ⟨rfl, ?_⟩
  have hb4 := HG4.out
  repeat (first | (with_reducible exact Below.refl _ _) | (with_reducible refine Below.setCell ?_ ?_ _) | (with_reducible refine Below.drew ?_) | (with_reducible refine Below.alloc ?_ ?_ _) | (with_reducible refine Below.trans ?_ (Below.mono hb4 ?_)) | (with_reducible exact hb4.size) | omega | (simp <;> omega) | (simp <;> (have s := hb4.size; omega)) | (have s0 := hb4.size; (try simp at s0); (try simp); omega))
set_option maxHeartbeats 12800000 in
theorem rforce_d3 (a b c : Int) (bl off cap : Nat) (L : List Q) (s : Nat) (w : World) (hl : Lies w bl off L) (hF : Fl a b c L) (hS : ∀ x ∈ L, IsS x) (hs1 : (s : Int) < a * b * c) :
    Calls Tryz.prog 65 #[.agg #[.int .i64 a, .int .i64 b, .int .i64 c, .slice (some ⟨bl, off, none⟩) L.length cap], .int .i64 (3 * s + 2 : Nat)] w fun e w' => e = .returned (.agg #[.int .i64 (frA tb a b c L s 3), .int .i64 (frA tc a b c L s 3), .int .i64 (frA td a b c L s 3)]) ∧ Below w.heap.size w w' := by
  have hd : IsStep 3 := ⟨by omega, by omega, by omega⟩
  have hs0 : (0 : Int) ≤ s := by omega
  have S1 : IsS (pl4 a b c L s 3 (-1)) := pl4_S hF hS hs0 hs1 hd ⟨by omega, by omega, by omega⟩
  have c1 : ∀ (W : World) (pb : Nat), Lies W bl off L → LiesI W pb 0 [3, (-1), -3, 1] → Calls Tryz.prog 85 #[.agg #[.int .i64 a, .int .i64 b, .int .i64 c, .slice (some ⟨bl, off, none⟩) L.length cap], .int .i64 s, .slice (some ⟨pb, 0, none⟩) 4 4] W fun e w' => e = .returned (.agg #[.int .i64 (pl4 a b c L s 3 (-1)).a, .int .i64 (pl4 a b c L s 3 (-1)).b, .int .i64 (pl4 a b c L s 3 (-1)).c, .int .i64 (pl4 a b c L s 3 (-1)).d, .int .i64 (pl4 a b c L s 3 (-1)).n]) ∧ Below W.heap.size W w' := fun W pb h1 h2 => refUnit_any a b c s bl off cap 4 (some ⟨pb, 0, none⟩) L [3, (-1), -3, 1] W hF hs0 hs1 h1 (.inr ⟨pb, 0, rfl, h2⟩) (by intro t ht; simp at ht; rcases ht with rfl | rfl | rfl | rfl <;> exact ⟨by omega, by omega, by omega⟩) (by simp)
  have S2 : IsS (pl4 a b c L s 3 1) := pl4_S hF hS hs0 hs1 hd ⟨by omega, by omega, by omega⟩
  have c2 : ∀ (W : World) (pb : Nat), Lies W bl off L → LiesI W pb 0 [3, 1, -3, (-1)] → Calls Tryz.prog 85 #[.agg #[.int .i64 a, .int .i64 b, .int .i64 c, .slice (some ⟨bl, off, none⟩) L.length cap], .int .i64 s, .slice (some ⟨pb, 0, none⟩) 4 4] W fun e w' => e = .returned (.agg #[.int .i64 (pl4 a b c L s 3 1).a, .int .i64 (pl4 a b c L s 3 1).b, .int .i64 (pl4 a b c L s 3 1).c, .int .i64 (pl4 a b c L s 3 1).d, .int .i64 (pl4 a b c L s 3 1).n]) ∧ Below W.heap.size W w' := fun W pb h1 h2 => refUnit_any a b c s bl off cap 4 (some ⟨pb, 0, none⟩) L [3, 1, -3, (-1)] W hF hs0 hs1 h1 (.inr ⟨pb, 0, rfl, h2⟩) (by intro t ht; simp at ht; rcases ht with rfl | rfl | rfl | rfl <;> exact ⟨by omega, by omega, by omega⟩) (by simp)
  have S3 : IsS (pl4 a b c L s 3 (-2)) := pl4_S hF hS hs0 hs1 hd ⟨by omega, by omega, by omega⟩
  have c3 : ∀ (W : World) (pb : Nat), Lies W bl off L → LiesI W pb 0 [3, (-2), -3, 2] → Calls Tryz.prog 85 #[.agg #[.int .i64 a, .int .i64 b, .int .i64 c, .slice (some ⟨bl, off, none⟩) L.length cap], .int .i64 s, .slice (some ⟨pb, 0, none⟩) 4 4] W fun e w' => e = .returned (.agg #[.int .i64 (pl4 a b c L s 3 (-2)).a, .int .i64 (pl4 a b c L s 3 (-2)).b, .int .i64 (pl4 a b c L s 3 (-2)).c, .int .i64 (pl4 a b c L s 3 (-2)).d, .int .i64 (pl4 a b c L s 3 (-2)).n]) ∧ Below W.heap.size W w' := fun W pb h1 h2 => refUnit_any a b c s bl off cap 4 (some ⟨pb, 0, none⟩) L [3, (-2), -3, 2] W hF hs0 hs1 h1 (.inr ⟨pb, 0, rfl, h2⟩) (by intro t ht; simp at ht; rcases ht with rfl | rfl | rfl | rfl <;> exact ⟨by omega, by omega, by omega⟩) (by simp)
  have S4 : IsS (pl4 a b c L s 3 2) := pl4_S hF hS hs0 hs1 hd ⟨by omega, by omega, by omega⟩
  have c4 : ∀ (W : World) (pb : Nat), Lies W bl off L → LiesI W pb 0 [3, 2, -3, (-2)] → Calls Tryz.prog 85 #[.agg #[.int .i64 a, .int .i64 b, .int .i64 c, .slice (some ⟨bl, off, none⟩) L.length cap], .int .i64 s, .slice (some ⟨pb, 0, none⟩) 4 4] W fun e w' => e = .returned (.agg #[.int .i64 (pl4 a b c L s 3 2).a, .int .i64 (pl4 a b c L s 3 2).b, .int .i64 (pl4 a b c L s 3 2).c, .int .i64 (pl4 a b c L s 3 2).d, .int .i64 (pl4 a b c L s 3 2).n]) ∧ Below W.heap.size W w' := fun W pb h1 h2 => refUnit_any a b c s bl off cap 4 (some ⟨pb, 0, none⟩) L [3, 2, -3, (-2)] W hF hs0 hs1 h1 (.inr ⟨pb, 0, rfl, h2⟩) (by intro t ht; simp at ht; rcases ht with rfl | rfl | rfl | rfl <;> exact ⟨by omega, by omega, by omega⟩) (by simp)
  have eb : frA tb a b c L s 3 = tb (pl4 a b c L s 3 1) + tb (pl4 a b c L s 3 (-1)) + tb (pl4 a b c L s 3 2) + tb (pl4 a b c L s 3 (-2)) := rfl
  have ec : frA tc a b c L s 3 = tc (pl4 a b c L s 3 1) + tc (pl4 a b c L s 3 (-1)) + tc (pl4 a b c L s 3 2) + tc (pl4 a b c L s 3 (-2)) := rfl
  have ed : frA td a b c L s 3 = td (pl4 a b c L s 3 1) + td (pl4 a b c L s 3 (-1)) + td (pl4 a b c L s 3 2) + td (pl4 a b c L s 3 (-2)) := rfl
  rw [eb, ec, ed]
  clear eb ec ed
  generalize pl4 a b c L s 3 (-1) = q1 at *
  obtain ⟨⟨vb11, vb12⟩, ⟨vc11, vc12⟩, ⟨vd11, vd12⟩, hn1, ⟨x10, x11⟩, ⟨x12, x13⟩, ⟨x14, x15⟩⟩ := S1.tw
  have hb1 : (2 * q1.b).tdiv q1.n = tb q1 := rfl
  have hc1 : (2 * q1.c).tdiv q1.n = tc q1 := rfl
  have hd1 : (2 * q1.d).tdiv q1.n = td q1 := rfl
  generalize tb q1 = r10 at *
  generalize tc q1 = r11 at *
  generalize td q1 = r12 at *
  have n11 : 1 ≤ q1.n := by omega
  have n12 : q1.n ≤ 2 := by omega
  have n13 : (q1.n == 0) = false := by simp; omega
  have n14 : ¬ q1.n = 0 := by omega
  have HQ1 := Lib.hid (And.intro hb1 (And.intro hc1 hd1))
  clear hb1 hc1 hd1 hn1
  generalize pl4 a b c L s 3 1 = q2 at *
  obtain ⟨⟨vb21, vb22⟩, ⟨vc21, vc22⟩, ⟨vd21, vd22⟩, hn2, ⟨x20, x21⟩, ⟨x22, x23⟩, ⟨x24, x25⟩⟩ := S2.tw
  have hb2 : (2 * q2.b).tdiv q2.n = tb q2 := rfl
  have hc2 : (2 * q2.c).tdiv q2.n = tc q2 := rfl
  have hd2 : (2 * q2.d).tdiv q2.n = td q2 := rfl
  generalize tb q2 = r20 at *
  generalize tc q2 = r21 at *
  generalize td q2 = r22 at *
  have n21 : 1 ≤ q2.n := by omega
  have n22 : q2.n ≤ 2 := by omega
  have n23 : (q2.n == 0) = false := by simp; omega
  have n24 : ¬ q2.n = 0 := by omega
  have HQ2 := Lib.hid (And.intro hb2 (And.intro hc2 hd2))
  clear hb2 hc2 hd2 hn2
  generalize pl4 a b c L s 3 (-2) = q3 at *
  obtain ⟨⟨vb31, vb32⟩, ⟨vc31, vc32⟩, ⟨vd31, vd32⟩, hn3, ⟨x30, x31⟩, ⟨x32, x33⟩, ⟨x34, x35⟩⟩ := S3.tw
  have hb3 : (2 * q3.b).tdiv q3.n = tb q3 := rfl
  have hc3 : (2 * q3.c).tdiv q3.n = tc q3 := rfl
  have hd3 : (2 * q3.d).tdiv q3.n = td q3 := rfl
  generalize tb q3 = r30 at *
  generalize tc q3 = r31 at *
  generalize td q3 = r32 at *
  have n31 : 1 ≤ q3.n := by omega
  have n32 : q3.n ≤ 2 := by omega
  have n33 : (q3.n == 0) = false := by simp; omega
  have n34 : ¬ q3.n = 0 := by omega
  have HQ3 := Lib.hid (And.intro hb3 (And.intro hc3 hd3))
  clear hb3 hc3 hd3 hn3
  generalize pl4 a b c L s 3 2 = q4 at *
  obtain ⟨⟨vb41, vb42⟩, ⟨vc41, vc42⟩, ⟨vd41, vd42⟩, hn4, ⟨x40, x41⟩, ⟨x42, x43⟩, ⟨x44, x45⟩⟩ := S4.tw
  have hb4 : (2 * q4.b).tdiv q4.n = tb q4 := rfl
  have hc4 : (2 * q4.c).tdiv q4.n = tc q4 := rfl
  have hd4 : (2 * q4.d).tdiv q4.n = td q4 := rfl
  generalize tb q4 = r40 at *
  generalize tc q4 = r41 at *
  generalize td q4 = r42 at *
  have n41 : 1 ≤ q4.n := by omega
  have n42 : q4.n ≤ 2 := by omega
  have n43 : (q4.n == 0) = false := by simp; omega
  have n44 : ¬ q4.n = 0 := by omega
  have HQ4 := Lib.hid (And.intro hb4 (And.intro hc4 hd4))
  clear hb4 hc4 hd4 hn4
  have hp16 := hF.z.p
  have HL := Lib.hid hl
  have d1 : ((3 * s + 2 : Nat) : Int) / 3 = s := by omega
  have d2 : ((3 * s + 2 : Nat) : Int) % 3 = 2 := by omega
  have d3 : ((3 * s + 2 : Nat) : Int) ≤ 1000 := by omega
  have d4 : (0 : Int) ≤ ((3 * s + 2 : Nat) : Int) := by omega
  clear hl hF hS hd hs0 hs1 hp16 S1 S2 S3 S4
  generalize ((3 * s + 2 : Nat) : Int) = i at *
  have kc := @Tail.cell_re
  have kc1 : ∀ (W : World) (o : Obj) (d : Nat) (os : Array Obj) (a : Addr), a.block ≤ W.heap.size → (Sort.grow (redrawn (W.alloc o) d) os).cell? a = (W.alloc o).cell? a := fun W o d os a h => Tail.cell_re (W.alloc o) d os a (Nat.lt_of_le_of_lt h (by simp))
  go_enter Tryz.func65, Tryz.ntmps65
  go_wp2
  have B0 : FW (((w.alloc (.cells #[.int .i64 a, .int .i64 b, .int .i64 c, .slice (some ⟨bl, off, none⟩) L.length cap] 25)).alloc (.cells #[.int .i64 0, .int .i64 0, .int .i64 0] 22)).alloc (.cells #[.int .i64 0, .int .i64 0, .int .i64 0] 22)) w.heap.size a b c (.slice (some ⟨bl, off, none⟩) L.length cap) := ⟨by simp [go_sem], by simp [go_sem], by simp [go_sem], by simp [go_sem], fun j => by simp [go_sem], by simp <;> omega⟩
  have R0 : T3 (((w.alloc (.cells #[.int .i64 a, .int .i64 b, .int .i64 c, .slice (some ⟨bl, off, none⟩) L.length cap] 25)).alloc (.cells #[.int .i64 0, .int .i64 0, .int .i64 0] 22)).alloc (.cells #[.int .i64 0, .int .i64 0, .int .i64 0] 22)) (w.heap.size + 1) 0 0 0 := ⟨by simp [go_sem], by simp [go_sem], by simp [go_sem], fun j => by simp [go_sem], by simp <;> omega⟩
  have F0 : T3 (((w.alloc (.cells #[.int .i64 a, .int .i64 b, .int .i64 c, .slice (some ⟨bl, off, none⟩) L.length cap] 25)).alloc (.cells #[.int .i64 0, .int .i64 0, .int .i64 0] 22)).alloc (.cells #[.int .i64 0, .int .i64 0, .int .i64 0] 22)) (w.heap.size + 2) 0 0 0 := ⟨by simp [go_sem], by simp [go_sem], by simp [go_sem], fun j => by simp [go_sem], by simp <;> omega⟩
  have G0 : Below w.heap.size w (((w.alloc (.cells #[.int .i64 a, .int .i64 b, .int .i64 c, .slice (some ⟨bl, off, none⟩) L.length cap] 25)).alloc (.cells #[.int .i64 0, .int .i64 0, .int .i64 0] 22)).alloc (.cells #[.int .i64 0, .int .i64 0, .int .i64 0] 22)) := by repeat (first | (with_reducible exact Below.refl _ _) | (with_reducible refine Below.setCell ?_ ?_ _) | (with_reducible refine Below.drew ?_) | (with_reducible refine Below.alloc ?_ ?_ _) | omega | (simp <;> omega))
  have HB0 := Lib.hid B0
  have HR0 := Lib.hid R0
  have HF0 := Lib.hid F0
  have HG0 := Lib.hid G0
  clear B0 R0 F0 G0
  generalize ((w.alloc (.cells #[.int .i64 a, .int .i64 b, .int .i64 c, .slice (some ⟨bl, off, none⟩) L.length cap] 25)).alloc (.cells #[.int .i64 0, .int .i64 0, .int .i64 0] 22)).alloc (.cells #[.int .i64 0, .int .i64 0, .int .i64 0] 22) = X0 at *
  obtain ⟨z, hz1, hz2, HFz⟩ : ∃ z : Int, z ≤ 0 ∧ 0 ≤ z ∧ Hid (T3 X0 (w.heap.size + 2) z z z) := ⟨0, by omega, by omega, HF0⟩
  clear HF0
  have HF0 := HFz
  clear HFz
  refine wp_loop_rounds 4 ?_
  rw [rounds_succ]
  go_wp2
  refine wp_loop_rounds 3 ?_
  rw [rounds_succ]
  obtain ⟨g10, g11, g12, g13, gf1, gl1⟩ := HB0.out
  have hb1 := HG0.out
  go_wp2_with (fail)
  refine (c1 _ _ (HL.out.later (by repeat (first | (with_reducible exact Below.refl _ _) | (with_reducible refine Below.setCell ?_ ?_ _) | (with_reducible refine Below.drew ?_) | (with_reducible refine Below.alloc ?_ ?_ _) | (with_reducible refine Below.trans ?_ (Below.mono hb1 ?_)) | (with_reducible exact hb1.size) | omega | (simp <;> omega) | (simp <;> (have s := hb1.size; omega)) | (have s0 := hb1.size; (try simp at s0); (try simp); omega)))) (lies4I (heap_alloc_new _ _))).mono ?_
  clear c1
  rintro e' V1 ⟨rfl, hv1⟩
  have bv1 : Below X0.heap.size X0 V1 := by repeat (first | (with_reducible exact Below.refl _ _) | (with_reducible refine Below.setCell ?_ ?_ _) | (with_reducible refine Below.drew ?_) | (with_reducible refine Below.alloc ?_ ?_ _) | (with_reducible refine Below.trans ?_ (Below.mono hv1 ?_)) | (with_reducible exact hv1.size) | omega | (simp <;> omega) | (simp <;> (have s := hv1.size; omega)) | (have s0 := hv1.size; (try simp at s0); (try simp); omega))
  have U1 : UP (V1.alloc (.cells #[.int .i64 q1.a, .int .i64 q1.b, .int .i64 q1.c, .int .i64 q1.d, .int .i64 q1.n] 40)) V1.heap.size q1 := ⟨by simp [go_sem], by simp [go_sem], by simp [go_sem], by simp [go_sem], by simp⟩
  have ba1 : Below X0.heap.size X0 (V1.alloc (.cells #[.int .i64 q1.a, .int .i64 q1.b, .int .i64 q1.c, .int .i64 q1.d, .int .i64 q1.n] 40)) := by repeat (first | (with_reducible exact Below.refl _ _) | (with_reducible refine Below.setCell ?_ ?_ _) | (with_reducible refine Below.drew ?_) | (with_reducible refine Below.alloc ?_ ?_ _) | (with_reducible refine Below.trans ?_ (Below.mono bv1 ?_)) | (with_reducible exact bv1.size) | omega | (simp <;> omega) | (simp <;> (have s := bv1.size; omega)) | (have s0 := bv1.size; (try simp at s0); (try simp); omega))
  have ls1 : X0.heap.size ≤ V1.heap.size := bv1.size
  have HF1a := Lib.hid (HF0.out.later ba1)
  have HR1a := Lib.hid (HR0.out.later ba1)
  have HB1a := Lib.hid (HB0.out.later ba1)
  have HG1a := Lib.hid (HG0.out.trans (ba1.mono HG0.out.size))
  have HU1a := Lib.hid U1
  have gF1 := HF0.out.lt
  clear g10 g11 g12 g13 gf1 gl1 hb1 hv1 bv1 U1 ba1 HF0 HR0 HB0 HG0
  go_wp2
  generalize V1.alloc (.cells #[.int .i64 q1.a, .int .i64 q1.b, .int .i64 q1.c, .int .i64 q1.d, .int .i64 q1.n] 40) = A1 at *
  obtain ⟨p101, p102, p103, p104, pl10⟩ := HU1a.out
  have f10 := HF1a.out.c0
  have fl10 := HF1a.out.lt
  have qb10 := HQ1.out.1
  refine Tail.region_tail_below 10 (by kernel_rfl) (by kernel_rfl) ?_
  simp only [List.take_succ_cons, List.take_zero]
  repeat (go_big_quiet_step (fail))
  refine wpQuiet_nil ?_
  intro Z10 hz10
  have F10z := HF1a.out.later hz10
  have U10z := HU1a.out.later hz10
  have R10z := HR1a.out.later hz10
  have B10z := HB1a.out.later hz10
  have G10z := HG1a.out.trans (hz10.mono HG1a.out.size)
  have hf10 := F10z.c0
  have hff10 := F10z.free
  have hfl10 := F10z.lt
  clear p101 p102 p103 p104 pl10 f10 fl10 qb10
  obtain ⟨u10, hu10⟩ : ∃ u : Int, z + r10 = u := ⟨_, rfl⟩
  have y10 : -2 ≤ u10 := by omega
  have yy10 : u10 ≤ 2 := by omega
  have Gs10 := grown_setCell Z10 ⟨w.heap.size + 2, 0, none⟩ (.int .i64 u10)
  have HF1b := Lib.hid (F10z.put0 u10)
  have HU1b := Lib.hid (U10z.far Gs10 (by simp; omega))
  have HR1b := Lib.hid (R10z.far Gs10 (by simp))
  have HB1b := Lib.hid (B10z.grown Gs10 (by simp))
  have HG1b := Lib.hid (G10z.setCell (p := ⟨w.heap.size + 2, 0, none⟩) (by simp) (.int .i64 u10))
  clear F10z U10z R10z B10z G10z Gs10 HF1a HU1a HR1a HB1a HG1a hz10
  go_wp2
  have HW10 := Lib.hid hu10
  clear hu10 hf10 hff10 hfl10
  generalize Z10.setCell ⟨w.heap.size + 2, 0, none⟩ (.int .i64 u10) = Y10 at *
  obtain ⟨p111, p112, p113, p114, pl11⟩ := HU1b.out
  have f11 := HF1b.out.c1
  have fl11 := HF1b.out.lt
  have qb11 := HQ1.out.2.1
  refine Tail.region_tail_below 10 (by kernel_rfl) (by kernel_rfl) ?_
  simp only [List.take_succ_cons, List.take_zero]
  repeat (go_big_quiet_step (fail))
  refine wpQuiet_nil ?_
  intro Z11 hz11
  have F11z := HF1b.out.later hz11
  have U11z := HU1b.out.later hz11
  have R11z := HR1b.out.later hz11
  have B11z := HB1b.out.later hz11
  have G11z := HG1b.out.trans (hz11.mono HG1b.out.size)
  have hf11 := F11z.c1
  have hff11 := F11z.free
  have hfl11 := F11z.lt
  clear p111 p112 p113 p114 pl11 f11 fl11 qb11
  obtain ⟨u11, hu11⟩ : ∃ u : Int, z + r11 = u := ⟨_, rfl⟩
  have y11 : -2 ≤ u11 := by omega
  have yy11 : u11 ≤ 2 := by omega
  have Gs11 := grown_setCell Z11 ⟨w.heap.size + 2, 1, none⟩ (.int .i64 u11)
  have HF1c := Lib.hid (F11z.put1 u11)
  have HU1c := Lib.hid (U11z.far Gs11 (by simp; omega))
  have HR1c := Lib.hid (R11z.far Gs11 (by simp))
  have HB1c := Lib.hid (B11z.grown Gs11 (by simp))
  have HG1c := Lib.hid (G11z.setCell (p := ⟨w.heap.size + 2, 1, none⟩) (by simp) (.int .i64 u11))
  clear F11z U11z R11z B11z G11z Gs11 HF1b HU1b HR1b HB1b HG1b hz11
  go_wp2
  have HW11 := Lib.hid hu11
  clear hu11 hf11 hff11 hfl11
  generalize Z11.setCell ⟨w.heap.size + 2, 1, none⟩ (.int .i64 u11) = Y11 at *
  obtain ⟨p121, p122, p123, p124, pl12⟩ := HU1c.out
  have f12 := HF1c.out.c2
  have fl12 := HF1c.out.lt
  have qb12 := HQ1.out.2.2
  refine Tail.region_tail_below 10 (by kernel_rfl) (by kernel_rfl) ?_
  simp only [List.take_succ_cons, List.take_zero]
  repeat (go_big_quiet_step (fail))
  refine wpQuiet_nil ?_
  intro Z12 hz12
  have F12z := HF1c.out.later hz12
  have U12z := HU1c.out.later hz12
  have R12z := HR1c.out.later hz12
  have B12z := HB1c.out.later hz12
  have G12z := HG1c.out.trans (hz12.mono HG1c.out.size)
  have hf12 := F12z.c2
  have hff12 := F12z.free
  have hfl12 := F12z.lt
  clear p121 p122 p123 p124 pl12 f12 fl12 qb12
  obtain ⟨u12, hu12⟩ : ∃ u : Int, z + r12 = u := ⟨_, rfl⟩
  have y12 : -2 ≤ u12 := by omega
  have yy12 : u12 ≤ 2 := by omega
  have Gs12 := grown_setCell Z12 ⟨w.heap.size + 2, 2, none⟩ (.int .i64 u12)
  have HF1d := Lib.hid (F12z.put2 u12)
  have HU1d := Lib.hid (U12z.far Gs12 (by simp; omega))
  have HR1d := Lib.hid (R12z.far Gs12 (by simp))
  have HB1d := Lib.hid (B12z.grown Gs12 (by simp))
  have HG1d := Lib.hid (G12z.setCell (p := ⟨w.heap.size + 2, 2, none⟩) (by simp) (.int .i64 u12))
  clear F12z U12z R12z B12z G12z Gs12 HF1c HU1c HR1c HB1c HG1c hz12
  go_wp2
  have HW12 := Lib.hid hu12
  clear hu12 hf12 hff12 hfl12
  generalize Z12.setCell ⟨w.heap.size + 2, 2, none⟩ (.int .i64 u12) = X1 at *
  have HF1 := HF1d
  have HR1 := HR1d
  have HB1 := HB1d
  have HG1 := HG1d
  clear HF1d HR1d HB1d HG1d HU1d
  rw [rounds_succ]
  obtain ⟨g20, g21, g22, g23, gf2, gl2⟩ := HB1.out
  have hb2 := HG1.out
  go_wp2_with (fail)
  refine (c2 _ _ (HL.out.later (by repeat (first | (with_reducible exact Below.refl _ _) | (with_reducible refine Below.setCell ?_ ?_ _) | (with_reducible refine Below.drew ?_) | (with_reducible refine Below.alloc ?_ ?_ _) | (with_reducible refine Below.trans ?_ (Below.mono hb2 ?_)) | (with_reducible exact hb2.size) | omega | (simp <;> omega) | (simp <;> (have s := hb2.size; omega)) | (have s0 := hb2.size; (try simp at s0); (try simp); omega)))) (lies4I (heap_alloc_new _ _))).mono ?_
  clear c2
  rintro e' V2 ⟨rfl, hv2⟩
  have bv2 : Below X1.heap.size X1 V2 := by repeat (first | (with_reducible exact Below.refl _ _) | (with_reducible refine Below.setCell ?_ ?_ _) | (with_reducible refine Below.drew ?_) | (with_reducible refine Below.alloc ?_ ?_ _) | (with_reducible refine Below.trans ?_ (Below.mono hv2 ?_)) | (with_reducible exact hv2.size) | omega | (simp <;> omega) | (simp <;> (have s := hv2.size; omega)) | (have s0 := hv2.size; (try simp at s0); (try simp); omega))
  have U2 : UP (V2.alloc (.cells #[.int .i64 q2.a, .int .i64 q2.b, .int .i64 q2.c, .int .i64 q2.d, .int .i64 q2.n] 40)) V2.heap.size q2 := ⟨by simp [go_sem], by simp [go_sem], by simp [go_sem], by simp [go_sem], by simp⟩
  have ba2 : Below X1.heap.size X1 (V2.alloc (.cells #[.int .i64 q2.a, .int .i64 q2.b, .int .i64 q2.c, .int .i64 q2.d, .int .i64 q2.n] 40)) := by repeat (first | (with_reducible exact Below.refl _ _) | (with_reducible refine Below.setCell ?_ ?_ _) | (with_reducible refine Below.drew ?_) | (with_reducible refine Below.alloc ?_ ?_ _) | (with_reducible refine Below.trans ?_ (Below.mono bv2 ?_)) | (with_reducible exact bv2.size) | omega | (simp <;> omega) | (simp <;> (have s := bv2.size; omega)) | (have s0 := bv2.size; (try simp at s0); (try simp); omega))
  have ls2 : X1.heap.size ≤ V2.heap.size := bv2.size
  have HF2a := Lib.hid (HF1.out.later ba2)
  have HR2a := Lib.hid (HR1.out.later ba2)
  have HB2a := Lib.hid (HB1.out.later ba2)
  have HG2a := Lib.hid (HG1.out.trans (ba2.mono HG1.out.size))
  have HU2a := Lib.hid U2
  have gF2 := HF1.out.lt
  clear g20 g21 g22 g23 gf2 gl2 hb2 hv2 bv2 U2 ba2 HF1 HR1 HB1 HG1
  go_wp2
  generalize V2.alloc (.cells #[.int .i64 q2.a, .int .i64 q2.b, .int .i64 q2.c, .int .i64 q2.d, .int .i64 q2.n] 40) = A2 at *
  obtain ⟨p201, p202, p203, p204, pl20⟩ := HU2a.out
  have f20 := HF2a.out.c0
  have fl20 := HF2a.out.lt
  have qb20 := HQ2.out.1
  refine Tail.region_tail_below 10 (by kernel_rfl) (by kernel_rfl) ?_
  simp only [List.take_succ_cons, List.take_zero]
  repeat (go_big_quiet_step (fail))
  refine wpQuiet_nil ?_
  intro Z20 hz20
  have F20z := HF2a.out.later hz20
  have U20z := HU2a.out.later hz20
  have R20z := HR2a.out.later hz20
  have B20z := HB2a.out.later hz20
  have G20z := HG2a.out.trans (hz20.mono HG2a.out.size)
  have hf20 := F20z.c0
  have hff20 := F20z.free
  have hfl20 := F20z.lt
  clear p201 p202 p203 p204 pl20 f20 fl20 qb20
  obtain ⟨u20, hu20⟩ : ∃ u : Int, u10 + r20 = u := ⟨_, rfl⟩
  have y20 : -4 ≤ u20 := by omega
  have yy20 : u20 ≤ 4 := by omega
  have Gs20 := grown_setCell Z20 ⟨w.heap.size + 2, 0, none⟩ (.int .i64 u20)
  have HF2b := Lib.hid (F20z.put0 u20)
  have HU2b := Lib.hid (U20z.far Gs20 (by simp; omega))
  have HR2b := Lib.hid (R20z.far Gs20 (by simp))
  have HB2b := Lib.hid (B20z.grown Gs20 (by simp))
  have HG2b := Lib.hid (G20z.setCell (p := ⟨w.heap.size + 2, 0, none⟩) (by simp) (.int .i64 u20))
  clear F20z U20z R20z B20z G20z Gs20 HF2a HU2a HR2a HB2a HG2a hz20
  go_wp2
  have HW20 := Lib.hid hu20
  clear hu20 hf20 hff20 hfl20
  generalize Z20.setCell ⟨w.heap.size + 2, 0, none⟩ (.int .i64 u20) = Y20 at *
  obtain ⟨p211, p212, p213, p214, pl21⟩ := HU2b.out
  have f21 := HF2b.out.c1
  have fl21 := HF2b.out.lt
  have qb21 := HQ2.out.2.1
  refine Tail.region_tail_below 10 (by kernel_rfl) (by kernel_rfl) ?_
  simp only [List.take_succ_cons, List.take_zero]
  repeat (go_big_quiet_step (fail))
  refine wpQuiet_nil ?_
  intro Z21 hz21
  have F21z := HF2b.out.later hz21
  have U21z := HU2b.out.later hz21
  have R21z := HR2b.out.later hz21
  have B21z := HB2b.out.later hz21
  have G21z := HG2b.out.trans (hz21.mono HG2b.out.size)
  have hf21 := F21z.c1
  have hff21 := F21z.free
  have hfl21 := F21z.lt
  clear p211 p212 p213 p214 pl21 f21 fl21 qb21
  obtain ⟨u21, hu21⟩ : ∃ u : Int, u11 + r21 = u := ⟨_, rfl⟩
  have y21 : -4 ≤ u21 := by omega
  have yy21 : u21 ≤ 4 := by omega
  have Gs21 := grown_setCell Z21 ⟨w.heap.size + 2, 1, none⟩ (.int .i64 u21)
  have HF2c := Lib.hid (F21z.put1 u21)
  have HU2c := Lib.hid (U21z.far Gs21 (by simp; omega))
  have HR2c := Lib.hid (R21z.far Gs21 (by simp))
  have HB2c := Lib.hid (B21z.grown Gs21 (by simp))
  have HG2c := Lib.hid (G21z.setCell (p := ⟨w.heap.size + 2, 1, none⟩) (by simp) (.int .i64 u21))
  clear F21z U21z R21z B21z G21z Gs21 HF2b HU2b HR2b HB2b HG2b hz21
  go_wp2
  have HW21 := Lib.hid hu21
  clear hu21 hf21 hff21 hfl21
  generalize Z21.setCell ⟨w.heap.size + 2, 1, none⟩ (.int .i64 u21) = Y21 at *
  obtain ⟨p221, p222, p223, p224, pl22⟩ := HU2c.out
  have f22 := HF2c.out.c2
  have fl22 := HF2c.out.lt
  have qb22 := HQ2.out.2.2
  refine Tail.region_tail_below 10 (by kernel_rfl) (by kernel_rfl) ?_
  simp only [List.take_succ_cons, List.take_zero]
  repeat (go_big_quiet_step (fail))
  refine wpQuiet_nil ?_
  intro Z22 hz22
  have F22z := HF2c.out.later hz22
  have U22z := HU2c.out.later hz22
  have R22z := HR2c.out.later hz22
  have B22z := HB2c.out.later hz22
  have G22z := HG2c.out.trans (hz22.mono HG2c.out.size)
  have hf22 := F22z.c2
  have hff22 := F22z.free
  have hfl22 := F22z.lt
  clear p221 p222 p223 p224 pl22 f22 fl22 qb22
  obtain ⟨u22, hu22⟩ : ∃ u : Int, u12 + r22 = u := ⟨_, rfl⟩
  have y22 : -4 ≤ u22 := by omega
  have yy22 : u22 ≤ 4 := by omega
  have Gs22 := grown_setCell Z22 ⟨w.heap.size + 2, 2, none⟩ (.int .i64 u22)
  have HF2d := Lib.hid (F22z.put2 u22)
  have HU2d := Lib.hid (U22z.far Gs22 (by simp; omega))
  have HR2d := Lib.hid (R22z.far Gs22 (by simp))
  have HB2d := Lib.hid (B22z.grown Gs22 (by simp))
  have HG2d := Lib.hid (G22z.setCell (p := ⟨w.heap.size + 2, 2, none⟩) (by simp) (.int .i64 u22))
  clear F22z U22z R22z B22z G22z Gs22 HF2c HU2c HR2c HB2c HG2c hz22
  go_wp2
  have HW22 := Lib.hid hu22
  clear hu22 hf22 hff22 hfl22
  generalize Z22.setCell ⟨w.heap.size + 2, 2, none⟩ (.int .i64 u22) = X2 at *
  have HF2 := HF2d
  have HR2 := HR2d
  have HB2 := HB2d
  have HG2 := HG2d
  clear HF2d HR2d HB2d HG2d HU2d
  rw [rounds_succ]
  go_wp2
  rw [rounds_succ]
  go_wp2
  refine wp_loop_rounds 3 ?_
  rw [rounds_succ]
  obtain ⟨g30, g31, g32, g33, gf3, gl3⟩ := HB2.out
  have hb3 := HG2.out
  go_wp2_with (fail)
  refine (c3 _ _ (HL.out.later (by repeat (first | (with_reducible exact Below.refl _ _) | (with_reducible refine Below.setCell ?_ ?_ _) | (with_reducible refine Below.drew ?_) | (with_reducible refine Below.alloc ?_ ?_ _) | (with_reducible refine Below.trans ?_ (Below.mono hb3 ?_)) | (with_reducible exact hb3.size) | omega | (simp <;> omega) | (simp <;> (have s := hb3.size; omega)) | (have s0 := hb3.size; (try simp at s0); (try simp); omega)))) (lies4I (heap_alloc_new _ _))).mono ?_
  clear c3
  rintro e' V3 ⟨rfl, hv3⟩
  have bv3 : Below X2.heap.size X2 V3 := by repeat (first | (with_reducible exact Below.refl _ _) | (with_reducible refine Below.setCell ?_ ?_ _) | (with_reducible refine Below.drew ?_) | (with_reducible refine Below.alloc ?_ ?_ _) | (with_reducible refine Below.trans ?_ (Below.mono hv3 ?_)) | (with_reducible exact hv3.size) | omega | (simp <;> omega) | (simp <;> (have s := hv3.size; omega)) | (have s0 := hv3.size; (try simp at s0); (try simp); omega))
  have U3 : UP (V3.alloc (.cells #[.int .i64 q3.a, .int .i64 q3.b, .int .i64 q3.c, .int .i64 q3.d, .int .i64 q3.n] 40)) V3.heap.size q3 := ⟨by simp [go_sem], by simp [go_sem], by simp [go_sem], by simp [go_sem], by simp⟩
  have ba3 : Below X2.heap.size X2 (V3.alloc (.cells #[.int .i64 q3.a, .int .i64 q3.b, .int .i64 q3.c, .int .i64 q3.d, .int .i64 q3.n] 40)) := by repeat (first | (with_reducible exact Below.refl _ _) | (with_reducible refine Below.setCell ?_ ?_ _) | (with_reducible refine Below.drew ?_) | (with_reducible refine Below.alloc ?_ ?_ _) | (with_reducible refine Below.trans ?_ (Below.mono bv3 ?_)) | (with_reducible exact bv3.size) | omega | (simp <;> omega) | (simp <;> (have s := bv3.size; omega)) | (have s0 := bv3.size; (try simp at s0); (try simp); omega))
  have ls3 : X2.heap.size ≤ V3.heap.size := bv3.size
  have HF3a := Lib.hid (HF2.out.later ba3)
  have HR3a := Lib.hid (HR2.out.later ba3)
  have HB3a := Lib.hid (HB2.out.later ba3)
  have HG3a := Lib.hid (HG2.out.trans (ba3.mono HG2.out.size))
  have HU3a := Lib.hid U3
  have gF3 := HF2.out.lt
  clear g30 g31 g32 g33 gf3 gl3 hb3 hv3 bv3 U3 ba3 HF2 HR2 HB2 HG2
  go_wp2
  generalize V3.alloc (.cells #[.int .i64 q3.a, .int .i64 q3.b, .int .i64 q3.c, .int .i64 q3.d, .int .i64 q3.n] 40) = A3 at *
  obtain ⟨p301, p302, p303, p304, pl30⟩ := HU3a.out
  have f30 := HF3a.out.c0
  have fl30 := HF3a.out.lt
  have qb30 := HQ3.out.1
  refine Tail.region_tail_below 10 (by kernel_rfl) (by kernel_rfl) ?_
  simp only [List.take_succ_cons, List.take_zero]
  repeat (go_big_quiet_step (fail))
  refine wpQuiet_nil ?_
  intro Z30 hz30
  have F30z := HF3a.out.later hz30
  have U30z := HU3a.out.later hz30
  have R30z := HR3a.out.later hz30
  have B30z := HB3a.out.later hz30
  have G30z := HG3a.out.trans (hz30.mono HG3a.out.size)
  have hf30 := F30z.c0
  have hff30 := F30z.free
  have hfl30 := F30z.lt
  clear p301 p302 p303 p304 pl30 f30 fl30 qb30
  obtain ⟨u30, hu30⟩ : ∃ u : Int, u20 + r30 = u := ⟨_, rfl⟩
  have y30 : -6 ≤ u30 := by omega
  have yy30 : u30 ≤ 6 := by omega
  have Gs30 := grown_setCell Z30 ⟨w.heap.size + 2, 0, none⟩ (.int .i64 u30)
  have HF3b := Lib.hid (F30z.put0 u30)
  have HU3b := Lib.hid (U30z.far Gs30 (by simp; omega))
  have HR3b := Lib.hid (R30z.far Gs30 (by simp))
  have HB3b := Lib.hid (B30z.grown Gs30 (by simp))
  have HG3b := Lib.hid (G30z.setCell (p := ⟨w.heap.size + 2, 0, none⟩) (by simp) (.int .i64 u30))
  clear F30z U30z R30z B30z G30z Gs30 HF3a HU3a HR3a HB3a HG3a hz30
  go_wp2
  have HW30 := Lib.hid hu30
  clear hu30 hf30 hff30 hfl30
  generalize Z30.setCell ⟨w.heap.size + 2, 0, none⟩ (.int .i64 u30) = Y30 at *
  obtain ⟨p311, p312, p313, p314, pl31⟩ := HU3b.out
  have f31 := HF3b.out.c1
  have fl31 := HF3b.out.lt
  have qb31 := HQ3.out.2.1
  refine Tail.region_tail_below 10 (by kernel_rfl) (by kernel_rfl) ?_
  simp only [List.take_succ_cons, List.take_zero]
  repeat (go_big_quiet_step (fail))
  refine wpQuiet_nil ?_
  intro Z31 hz31
  have F31z := HF3b.out.later hz31
  have U31z := HU3b.out.later hz31
  have R31z := HR3b.out.later hz31
  have B31z := HB3b.out.later hz31
  have G31z := HG3b.out.trans (hz31.mono HG3b.out.size)
  have hf31 := F31z.c1
  have hff31 := F31z.free
  have hfl31 := F31z.lt
  clear p311 p312 p313 p314 pl31 f31 fl31 qb31
  obtain ⟨u31, hu31⟩ : ∃ u : Int, u21 + r31 = u := ⟨_, rfl⟩
  have y31 : -6 ≤ u31 := by omega
  have yy31 : u31 ≤ 6 := by omega
  have Gs31 := grown_setCell Z31 ⟨w.heap.size + 2, 1, none⟩ (.int .i64 u31)
  have HF3c := Lib.hid (F31z.put1 u31)
  have HU3c := Lib.hid (U31z.far Gs31 (by simp; omega))
  have HR3c := Lib.hid (R31z.far Gs31 (by simp))
  have HB3c := Lib.hid (B31z.grown Gs31 (by simp))
  have HG3c := Lib.hid (G31z.setCell (p := ⟨w.heap.size + 2, 1, none⟩) (by simp) (.int .i64 u31))
  clear F31z U31z R31z B31z G31z Gs31 HF3b HU3b HR3b HB3b HG3b hz31
  go_wp2
  have HW31 := Lib.hid hu31
  clear hu31 hf31 hff31 hfl31
  generalize Z31.setCell ⟨w.heap.size + 2, 1, none⟩ (.int .i64 u31) = Y31 at *
  obtain ⟨p321, p322, p323, p324, pl32⟩ := HU3c.out
  have f32 := HF3c.out.c2
  have fl32 := HF3c.out.lt
  have qb32 := HQ3.out.2.2
  refine Tail.region_tail_below 10 (by kernel_rfl) (by kernel_rfl) ?_
  simp only [List.take_succ_cons, List.take_zero]
  repeat (go_big_quiet_step (fail))
  refine wpQuiet_nil ?_
  intro Z32 hz32
  have F32z := HF3c.out.later hz32
  have U32z := HU3c.out.later hz32
  have R32z := HR3c.out.later hz32
  have B32z := HB3c.out.later hz32
  have G32z := HG3c.out.trans (hz32.mono HG3c.out.size)
  have hf32 := F32z.c2
  have hff32 := F32z.free
  have hfl32 := F32z.lt
  clear p321 p322 p323 p324 pl32 f32 fl32 qb32
  obtain ⟨u32, hu32⟩ : ∃ u : Int, u22 + r32 = u := ⟨_, rfl⟩
  have y32 : -6 ≤ u32 := by omega
  have yy32 : u32 ≤ 6 := by omega
  have Gs32 := grown_setCell Z32 ⟨w.heap.size + 2, 2, none⟩ (.int .i64 u32)
  have HF3d := Lib.hid (F32z.put2 u32)
  have HU3d := Lib.hid (U32z.far Gs32 (by simp; omega))
  have HR3d := Lib.hid (R32z.far Gs32 (by simp))
  have HB3d := Lib.hid (B32z.grown Gs32 (by simp))
  have HG3d := Lib.hid (G32z.setCell (p := ⟨w.heap.size + 2, 2, none⟩) (by simp) (.int .i64 u32))
  clear F32z U32z R32z B32z G32z Gs32 HF3c HU3c HR3c HB3c HG3c hz32
  go_wp2
  have HW32 := Lib.hid hu32
  clear hu32 hf32 hff32 hfl32
  generalize Z32.setCell ⟨w.heap.size + 2, 2, none⟩ (.int .i64 u32) = X3 at *
  have HF3 := HF3d
  have HR3 := HR3d
  have HB3 := HB3d
  have HG3 := HG3d
  clear HF3d HR3d HB3d HG3d HU3d
  rw [rounds_succ]
  obtain ⟨g40, g41, g42, g43, gf4, gl4⟩ := HB3.out
  have hb4 := HG3.out
  go_wp2_with (fail)
  refine (c4 _ _ (HL.out.later (by repeat (first | (with_reducible exact Below.refl _ _) | (with_reducible refine Below.setCell ?_ ?_ _) | (with_reducible refine Below.drew ?_) | (with_reducible refine Below.alloc ?_ ?_ _) | (with_reducible refine Below.trans ?_ (Below.mono hb4 ?_)) | (with_reducible exact hb4.size) | omega | (simp <;> omega) | (simp <;> (have s := hb4.size; omega)) | (have s0 := hb4.size; (try simp at s0); (try simp); omega)))) (lies4I (heap_alloc_new _ _))).mono ?_
  clear c4
  rintro e' V4 ⟨rfl, hv4⟩
  have bv4 : Below X3.heap.size X3 V4 := by repeat (first | (with_reducible exact Below.refl _ _) | (with_reducible refine Below.setCell ?_ ?_ _) | (with_reducible refine Below.drew ?_) | (with_reducible refine Below.alloc ?_ ?_ _) | (with_reducible refine Below.trans ?_ (Below.mono hv4 ?_)) | (with_reducible exact hv4.size) | omega | (simp <;> omega) | (simp <;> (have s := hv4.size; omega)) | (have s0 := hv4.size; (try simp at s0); (try simp); omega))
  have U4 : UP (V4.alloc (.cells #[.int .i64 q4.a, .int .i64 q4.b, .int .i64 q4.c, .int .i64 q4.d, .int .i64 q4.n] 40)) V4.heap.size q4 := ⟨by simp [go_sem], by simp [go_sem], by simp [go_sem], by simp [go_sem], by simp⟩
  have ba4 : Below X3.heap.size X3 (V4.alloc (.cells #[.int .i64 q4.a, .int .i64 q4.b, .int .i64 q4.c, .int .i64 q4.d, .int .i64 q4.n] 40)) := by repeat (first | (with_reducible exact Below.refl _ _) | (with_reducible refine Below.setCell ?_ ?_ _) | (with_reducible refine Below.drew ?_) | (with_reducible refine Below.alloc ?_ ?_ _) | (with_reducible refine Below.trans ?_ (Below.mono bv4 ?_)) | (with_reducible exact bv4.size) | omega | (simp <;> omega) | (simp <;> (have s := bv4.size; omega)) | (have s0 := bv4.size; (try simp at s0); (try simp); omega))
  have ls4 : X3.heap.size ≤ V4.heap.size := bv4.size
  have HF4a := Lib.hid (HF3.out.later ba4)
  have HR4a := Lib.hid (HR3.out.later ba4)
  have HB4a := Lib.hid (HB3.out.later ba4)
  have HG4a := Lib.hid (HG3.out.trans (ba4.mono HG3.out.size))
  have HU4a := Lib.hid U4
  have gF4 := HF3.out.lt
  clear g40 g41 g42 g43 gf4 gl4 hb4 hv4 bv4 U4 ba4 HF3 HR3 HB3 HG3
  go_wp2
  generalize V4.alloc (.cells #[.int .i64 q4.a, .int .i64 q4.b, .int .i64 q4.c, .int .i64 q4.d, .int .i64 q4.n] 40) = A4 at *
  obtain ⟨p401, p402, p403, p404, pl40⟩ := HU4a.out
  have f40 := HF4a.out.c0
  have fl40 := HF4a.out.lt
  have qb40 := HQ4.out.1
  refine Tail.region_tail_below 10 (by kernel_rfl) (by kernel_rfl) ?_
  simp only [List.take_succ_cons, List.take_zero]
  repeat (go_big_quiet_step (fail))
  refine wpQuiet_nil ?_
  intro Z40 hz40
  have F40z := HF4a.out.later hz40
  have U40z := HU4a.out.later hz40
  have R40z := HR4a.out.later hz40
  have B40z := HB4a.out.later hz40
  have G40z := HG4a.out.trans (hz40.mono HG4a.out.size)
  have hf40 := F40z.c0
  have hff40 := F40z.free
  have hfl40 := F40z.lt
  clear p401 p402 p403 p404 pl40 f40 fl40 qb40
  obtain ⟨u40, hu40⟩ : ∃ u : Int, u30 + r40 = u := ⟨_, rfl⟩
  have y40 : -8 ≤ u40 := by omega
  have yy40 : u40 ≤ 8 := by omega
  have Gs40 := grown_setCell Z40 ⟨w.heap.size + 2, 0, none⟩ (.int .i64 u40)
  have HF4b := Lib.hid (F40z.put0 u40)
  have HU4b := Lib.hid (U40z.far Gs40 (by simp; omega))
  have HR4b := Lib.hid (R40z.far Gs40 (by simp))
  have HB4b := Lib.hid (B40z.grown Gs40 (by simp))
  have HG4b := Lib.hid (G40z.setCell (p := ⟨w.heap.size + 2, 0, none⟩) (by simp) (.int .i64 u40))
  clear F40z U40z R40z B40z G40z Gs40 HF4a HU4a HR4a HB4a HG4a hz40
  go_wp2
  have HW40 := Lib.hid hu40
  clear hu40 hf40 hff40 hfl40
  generalize Z40.setCell ⟨w.heap.size + 2, 0, none⟩ (.int .i64 u40) = Y40 at *
  obtain ⟨p411, p412, p413, p414, pl41⟩ := HU4b.out
  have f41 := HF4b.out.c1
  have fl41 := HF4b.out.lt
  have qb41 := HQ4.out.2.1
  refine Tail.region_tail_below 10 (by kernel_rfl) (by kernel_rfl) ?_
  simp only [List.take_succ_cons, List.take_zero]
  repeat (go_big_quiet_step (fail))
  refine wpQuiet_nil ?_
  intro Z41 hz41
  have F41z := HF4b.out.later hz41
  have U41z := HU4b.out.later hz41
  have R41z := HR4b.out.later hz41
  have B41z := HB4b.out.later hz41
  have G41z := HG4b.out.trans (hz41.mono HG4b.out.size)
  have hf41 := F41z.c1
  have hff41 := F41z.free
  have hfl41 := F41z.lt
  clear p411 p412 p413 p414 pl41 f41 fl41 qb41
  obtain ⟨u41, hu41⟩ : ∃ u : Int, u31 + r41 = u := ⟨_, rfl⟩
  have y41 : -8 ≤ u41 := by omega
  have yy41 : u41 ≤ 8 := by omega
  have Gs41 := grown_setCell Z41 ⟨w.heap.size + 2, 1, none⟩ (.int .i64 u41)
  have HF4c := Lib.hid (F41z.put1 u41)
  have HU4c := Lib.hid (U41z.far Gs41 (by simp; omega))
  have HR4c := Lib.hid (R41z.far Gs41 (by simp))
  have HB4c := Lib.hid (B41z.grown Gs41 (by simp))
  have HG4c := Lib.hid (G41z.setCell (p := ⟨w.heap.size + 2, 1, none⟩) (by simp) (.int .i64 u41))
  clear F41z U41z R41z B41z G41z Gs41 HF4b HU4b HR4b HB4b HG4b hz41
  go_wp2
  have HW41 := Lib.hid hu41
  clear hu41 hf41 hff41 hfl41
  generalize Z41.setCell ⟨w.heap.size + 2, 1, none⟩ (.int .i64 u41) = Y41 at *
  obtain ⟨p421, p422, p423, p424, pl42⟩ := HU4c.out
  have f42 := HF4c.out.c2
  have fl42 := HF4c.out.lt
  have qb42 := HQ4.out.2.2
  refine Tail.region_tail_below 10 (by kernel_rfl) (by kernel_rfl) ?_
  simp only [List.take_succ_cons, List.take_zero]
  repeat (go_big_quiet_step (fail))
  refine wpQuiet_nil ?_
  intro Z42 hz42
  have F42z := HF4c.out.later hz42
  have U42z := HU4c.out.later hz42
  have R42z := HR4c.out.later hz42
  have B42z := HB4c.out.later hz42
  have G42z := HG4c.out.trans (hz42.mono HG4c.out.size)
  have hf42 := F42z.c2
  have hff42 := F42z.free
  have hfl42 := F42z.lt
  clear p421 p422 p423 p424 pl42 f42 fl42 qb42
  obtain ⟨u42, hu42⟩ : ∃ u : Int, u32 + r42 = u := ⟨_, rfl⟩
  have y42 : -8 ≤ u42 := by omega
  have yy42 : u42 ≤ 8 := by omega
  have Gs42 := grown_setCell Z42 ⟨w.heap.size + 2, 2, none⟩ (.int .i64 u42)
  have HF4d := Lib.hid (F42z.put2 u42)
  have HU4d := Lib.hid (U42z.far Gs42 (by simp; omega))
  have HR4d := Lib.hid (R42z.far Gs42 (by simp))
  have HB4d := Lib.hid (B42z.grown Gs42 (by simp))
  have HG4d := Lib.hid (G42z.setCell (p := ⟨w.heap.size + 2, 2, none⟩) (by simp) (.int .i64 u42))
  clear F42z U42z R42z B42z G42z Gs42 HF4c HU4c HR4c HB4c HG4c hz42
  go_wp2
  have HW42 := Lib.hid hu42
  clear hu42 hf42 hff42 hfl42
  generalize Z42.setCell ⟨w.heap.size + 2, 2, none⟩ (.int .i64 u42) = X4 at *
  have HF4 := HF4d
  have HR4 := HR4d
  have HB4 := HB4d
  have HG4 := HG4d
  clear HF4d HR4d HB4d HG4d HU4d
  rw [rounds_succ]
  go_wp2
  rw [rounds_succ]
  go_wp2
  rw [rounds_succ]
  have rr0 := HR4.out.c0
  have rr1 := HR4.out.c1
  have rr2 := HR4.out.c2
  have rf := HR4.out.free
  have rl := HR4.out.lt
  have f0 := HF4.out.c0
  have f1 := HF4.out.c1
  have f2 := HF4.out.c2
  have fl := HF4.out.lt
  go_wp2
  have w0 : r20 + r10 + r40 + r30 = u40 := by have := HW10.out; have := HW20.out; have := HW30.out; have := HW40.out; omega
  have w1 : r21 + r11 + r41 + r31 = u41 := by have := HW11.out; have := HW21.out; have := HW31.out; have := HW41.out; omega
  have w2 : r22 + r12 + r42 + r32 = u42 := by have := HW12.out; have := HW22.out; have := HW32.out; have := HW42.out; omega
  rw [w0, w1, w2]
  refine bodyPost_ret (v := .agg #[.int .i64 u40, .int .i64 u41, .int .i64 u42]) (by simp [results, Tryz.results65, go_sem, rr0, rr1, rr2, rf, rl]) rfl ⟨rfl, ?_⟩
  have hb4 := HG4.out
  repeat (first | (with_reducible exact Below.refl _ _) | (with_reducible refine Below.setCell ?_ ?_ _) | (with_reducible refine Below.drew ?_) | (with_reducible refine Below.alloc ?_ ?_ _) | (with_reducible refine Below.trans ?_ (Below.mono hb4 ?_)) | (with_reducible exact hb4.size) | omega | (simp <;> omega) | (simp <;> (have s := hb4.size; omega)) | (have s0 := hb4.size; (try simp at s0); (try simp); omega))
theorem rforce_any (a b c : Int) (bl off cap : Nat) (L : List Q) (i : Nat) (w : World) (hl : Lies w bl off L) (hF : Fl a b c L) (hS : ∀ x ∈ L, IsS x) (hi : i < L.length) :
    Calls Tryz.prog 65 #[.agg #[.int .i64 a, .int .i64 b, .int .i64 c, .slice (some ⟨bl, off, none⟩) L.length cap], .int .i64 i] w fun e w' => e = .returned (.agg #[.int .i64 (frc a b c L i).a, .int .i64 (frc a b c L i).b, .int .i64 (frc a b c L i).c]) ∧ Below w.heap.size w w' := by
  have hl3 := hF.n
  obtain ⟨s, hs⟩ : ∃ s, s = i / 3 := ⟨_, rfl⟩
  have h3 : i = 3 * s + i % 3 := by omega
  have hsN : (s : Int) < a * b * c := by omega
  have e1 : (i : Int) / 3 = (s : Int) := by omega
  have hc : i % 3 = 0 ∨ i % 3 = 1 ∨ i % 3 = 2 := by omega
  unfold frc
  rw [e1]
  rcases hc with h | h | h
  · rw [show (i : Int) % 3 + 1 = 1 by omega]
    have := rforce_d1 a b c bl off cap L s w hl hF hS hsN
    rwa [show 3 * s + 0 = i by omega] at this
  · rw [show (i : Int) % 3 + 1 = 2 by omega]
    have := rforce_d2 a b c bl off cap L s w hl hF hS hsN
    rwa [show 3 * s + 1 = i by omega] at this
  · rw [show (i : Int) % 3 + 1 = 3 by omega]
    have := rforce_d3 a b c bl off cap L s w hl hF hS hsN
    rwa [show 3 * s + 2 = i by omega] at this
end Go.Proofs.YtilbhcjnkmeecaaGreat
