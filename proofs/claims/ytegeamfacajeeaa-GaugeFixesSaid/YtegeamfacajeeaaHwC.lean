/- The document's Branches, Loops and Fix, with their errors.
Conditions: those written at each theorem. -/
import Derived.Test.YtegeamfacajeeaaGauE
import Derived.Test.YtegeamfacajeeaaGauD
import Derived.Test.YtegeamfacajeeaaGauC
import Derived.Test.YtegeamfacajeeaaGauG
import Derived.Deep.RegionHeld3
namespace Go.Proofs.Ytegeamfacajeeaa
set_option linter.unusedVariables false
set_option linter.unusedSimpArgs false
set_option maxRecDepth 1000000
open Go.RowKit
open Um Tm

theorem numsR_exG (a b c : Int) (L : List Q) : ∃ ns r, numsR a b c L ns r := by
  obtain ⟨r, hr⟩ := fldR_ex a b c L
  by_cases h0 : r = 0
  · subst h0
    obtain ⟨ns, q, hq⟩ := smR_ex L
    cases q with
    | true => exact ⟨ns, 0, .inr ⟨hr, .inl ⟨hq, rfl⟩⟩⟩
    | false => exact ⟨ns, 7, .inr ⟨hr, .inr ⟨hq, rfl⟩⟩⟩
  · exact ⟨[], r, .inl ⟨hr, h0, rfl⟩⟩
/-- the small fields that are valid, and how many sites they have -/
theorem numsR_okG {a b c : Int} {L : List Q} {ns : List Int} (h : numsR a b c L ns 0) : fldR a b c L 0 ∧ AllS L ∧ Fl a b c L ∧ ∃ N : Nat, (N : Int) = a * b * c := by
  rcases h with ⟨_, h, _⟩ | ⟨h1, ⟨h2, _⟩ | ⟨_, h⟩⟩
  · exact absurd rfl h
  · refine ⟨h1, AllS.num h2, ⟨(fldR_ok h1).1, (fldR_ok h1).2.1, (fldR_ok h1).2.2⟩, (a * b * c).toNat, ?_⟩
    have hz := (fldR_ok h1).1
    obtain ⟨-, -, p3, -⟩ := mul_rng hz.a1 hz.a4 hz.b1 hz.b4 hz.c1 hz.c4
    omega
  · exact absurd h (by decide)
set_option maxHeartbeats 800000 in
theorem refBr_bad (a b c r : Int) (ao : Option Addr) (cap : Nat) (L : List Q) (ns : List Int) (w : World) (h : LiesO w ao L) (hr : numsR a b c L ns r) (h0 : r ≠ 0) (hlen : L.length ≤ 1000000) : Calls Try.prog 30 #[.agg #[.int .i64 a, .int .i64 b, .int .i64 c, .slice ao L.length cap]] w fun e w' => e = .returned (.tuple #[.slice none 0 0, .int .i64 r]) ∧ Below w.heap.size w w' := by
  have c1 := fun (W : World) (h : LiesO W ao L) => little_any a b c r ao cap L ns W h hr hlen
  have h0' : (r != 0) = true := by simpa using h0
  have H := Lib.hid h
  clear h hr h0
  go_enter Try.func30, Try.ntmps30
  go_wp2_with (fail)
  refine (c1 _ (H.out.later ba1)).mono ?_
  rintro e w1 ⟨rfl, hw1⟩
  go_wp2
  go_ret2
  exact ⟨rfl, bel1 hw1⟩
set_option maxHeartbeats 800000 in
theorem refLp_bad (a b c r : Int) (ao : Option Addr) (cap : Nat) (L : List Q) (ns : List Int) (w : World) (h : LiesO w ao L) (hr : numsR a b c L ns r) (h0 : r ≠ 0) (hlen : L.length ≤ 1000000) : Calls Try.prog 32 #[.agg #[.int .i64 a, .int .i64 b, .int .i64 c, .slice ao L.length cap]] w fun e w' => e = .returned (.tuple #[.slice none 0 0, .int .i64 r]) ∧ Below w.heap.size w w' := by
  have c1 := fun (W : World) (h : LiesO W ao L) => little_any a b c r ao cap L ns W h hr hlen
  have h0' : (r != 0) = true := by simpa using h0
  have H := Lib.hid h
  clear h hr h0
  go_enter Try.func32, Try.ntmps32
  go_wp2_with (fail)
  refine (c1 _ (H.out.later ba1)).mono ?_
  rintro e w1 ⟨rfl, hw1⟩
  go_wp2
  go_ret2
  exact ⟨rfl, bel1 hw1⟩
set_option maxHeartbeats 800000 in
theorem refFx_bad (a b c r : Int) (ao : Option Addr) (cap : Nat) (L : List Q) (ns : List Int) (w : World) (h : LiesO w ao L) (hr : numsR a b c L ns r) (h0 : r ≠ 0) (hlen : L.length ≤ 1000000) : Calls Try.prog 34 #[.agg #[.int .i64 a, .int .i64 b, .int .i64 c, .slice ao L.length cap]] w fun e w' => e = .returned (.tuple #[.agg #[.int .i64 0, .int .i64 0, .int .i64 0, .slice none 0 0], .int .i64 r]) ∧ Below w.heap.size w w' := by
  have c1 := fun (W : World) (h : LiesO W ao L) => little_any a b c r ao cap L ns W h hr hlen
  have h0' : (r != 0) = true := by simpa using h0
  have H := Lib.hid h
  clear h hr h0
  go_enter Try.func34, Try.ntmps34
  go_wp2_with (fail)
  refine (c1 _ (H.out.later ba2)).mono ?_
  rintro e w1 ⟨rfl, hw1⟩
  have hc := Tail.cells hw1
  have zw10 := Nat.lt_of_lt_of_le (n := w.heap.size) (by simp <;> omega) hw1.size; have zw11 := Nat.lt_of_lt_of_le (n := w.heap.size + 1) (by simp <;> omega) hw1.size
  go_wp2
  refine bodyPost_ret (v := .tuple #[.agg #[.int .i64 0, .int .i64 0, .int .i64 0, .slice none 0 0], .int .i64 r]) ?_ rfl ⟨rfl, ?_⟩
  · simp [results, Try.results34, go_sem, hc, zw10, zw11]
  · repeat (first | (with_reducible exact Below.refl _ _) | (with_reducible refine Below.setCell ?_ ?_ _) | (with_reducible refine Below.drew ?_) | (with_reducible refine Below.alloc ?_ ?_ _) | (with_reducible refine Below.trans ?_ (Below.mono hw1 ?_)) | (with_reducible exact hw1.size) | omega | (simp <;> omega) | (simp <;> (have s := hw1.size; omega)) | (have s0 := hw1.size; (try simp at s0); (try simp); omega))
set_option maxHeartbeats 1600000 in
theorem refBrs_ok (a b c : Int) (bl off cap N : Nat) (L : List Q) (ns : List Int) (w : World) (h : Lies w bl off L) (hr : numsR a b c L ns 0) (hN : (N : Int) = a * b * c) (hlen : L.length ≤ 1000000) : Calls Try.prog 30 #[.agg #[.int .i64 a, .int .i64 b, .int .i64 c, .slice (some ⟨bl, off, none⟩) L.length cap]] w fun e w' => (∃ g k : Nat, e = .returned (.tuple #[.slice (some ⟨g, 0, none⟩) N k, .int .i64 0]) ∧ LBox w' g (brL a b c N L)) ∧ Below w.heap.size w w' := by
  obtain ⟨hf, hS, hF, -⟩ := numsR_okG hr
  have c1 := fun (W : World) (h : LiesO W (some ⟨bl, off, none⟩) L) => little_any a b c 0 (some ⟨bl, off, none⟩) cap L ns W h hr hlen
  have c2 := fun (W : World) (h : Lies W bl off L) => refBr_ok a b c bl off cap N L W h hF hS hN
  have H := Lib.hid h
  clear h hr hN hf hS hF
  go_enter Try.func30, Try.ntmps30
  have F0 := Lib.hid (FW.n1 (w := w) (x := a) (y := b) (z := c) (v := .slice (some ⟨bl, off, none⟩) L.length cap) (T := 25))
  go_wp2_with (fail)
  refine (c1 _ (.inr ⟨bl, off, rfl, H.out.later ba1⟩)).mono ?_
  rintro e w1 ⟨rfl, hw1⟩
  have b1 := bel1 hw1
  obtain ⟨f0, f1, f2, f3, ff, fl⟩ := F0.out.later hw1
  clear c1 hw1 F0
  go_wp2_with (fail)
  refine (c2 _ (H.out.later b1)).mono ?_
  rintro e w2 ⟨⟨g, k, rfl, hg, -⟩, hw2⟩
  go_wp2
  go_ret2
  exact ⟨⟨g, k, rfl, hg⟩, b1.trans (hw2.mono b1.size)⟩
set_option maxHeartbeats 1600000 in
theorem refLps_ok (a b c : Int) (bl off cap N : Nat) (L : List Q) (ns : List Int) (w : World) (h : Lies w bl off L) (hr : numsR a b c L ns 0) (hN : (N : Int) = a * b * c) (hlen : L.length ≤ 1000000) : Calls Try.prog 32 #[.agg #[.int .i64 a, .int .i64 b, .int .i64 c, .slice (some ⟨bl, off, none⟩) L.length cap]] w fun e w' => (∃ ao k, e = .returned (.tuple #[.slice ao (lpL a b c N L).length k, .int .i64 0]) ∧ LiesO w' ao (lpL a b c N L)) ∧ Below w.heap.size w w' := by
  obtain ⟨hf, hS, hF, -⟩ := numsR_okG hr
  have c1 := fun (W : World) (h : LiesO W (some ⟨bl, off, none⟩) L) => little_any a b c 0 (some ⟨bl, off, none⟩) cap L ns W h hr hlen
  have c2 := fun (W : World) (h : Lies W bl off L) => refLp_ok a b c bl off cap N L W h hf hS hN
  have H := Lib.hid h
  clear h hr hN hf hS hF
  go_enter Try.func32, Try.ntmps32
  have F0 := Lib.hid (FW.n1 (w := w) (x := a) (y := b) (z := c) (v := .slice (some ⟨bl, off, none⟩) L.length cap) (T := 25))
  go_wp2_with (fail)
  refine (c1 _ (.inr ⟨bl, off, rfl, H.out.later ba1⟩)).mono ?_
  rintro e w1 ⟨rfl, hw1⟩
  have b1 := bel1 hw1
  obtain ⟨f0, f1, f2, f3, ff, fl⟩ := F0.out.later hw1
  clear c1 hw1 F0
  go_wp2_with (fail)
  refine (c2 _ (H.out.later b1)).mono ?_
  rintro e w2 ⟨⟨ao, k, rfl, hg⟩, hw2⟩
  go_wp2
  go_ret2
  exact ⟨⟨ao, k, rfl, hg⟩, b1.trans (hw2.mono b1.size)⟩
set_option maxHeartbeats 6400000 in
theorem refFxs_ok (a b c : Int) (bl off cap N : Nat) (L : List Q) (ns : List Int) (w : World) (h : Lies w bl off L) (hr : numsR a b c L ns 0) (hN : (N : Int) = a * b * c) (hlen : L.length ≤ 1000000) : Calls Try.prog 34 #[.agg #[.int .i64 a, .int .i64 b, .int .i64 c, .slice (some ⟨bl, off, none⟩) L.length cap]] w fun e w' => (∃ g k : Nat, e = .returned (.tuple #[.agg #[.int .i64 a, .int .i64 b, .int .i64 c, .slice (some ⟨g, 0, none⟩) L.length k], .int .i64 0]) ∧ LBox w' g (fxL a b c N L)) ∧ Below w.heap.size w w' := by
  obtain ⟨hf, hS, hF, -⟩ := numsR_okG hr
  have hG : Gg L (brL a b c N L) := gaR_Gg (gaR_of (L := L) (G := brL a b c N L) hf (by rw [brL_len]; have := hF.n; omega) (brL_all hF hS hN))
  have c1 := fun (W : World) (h : LiesO W (some ⟨bl, off, none⟩) L) => little_any a b c 0 (some ⟨bl, off, none⟩) cap L ns W h hr hlen
  have c2 := fun (W : World) (h : Lies W bl off L) => refBr_ok a b c bl off cap N L W h hF hS hN
  have c3 : ∀ (W : World) (g gc : Nat), Lies W bl off L → Lies W g 0 (brL a b c N L) → Calls Try.prog 55 #[.agg #[.int .i64 a, .int .i64 b, .int .i64 c, .slice (some ⟨bl, off, none⟩) L.length cap], .slice (some ⟨g, 0, none⟩) N gc] W fun e w' => (∃ g k : Nat, e = .returned (.agg #[.int .i64 a, .int .i64 b, .int .i64 c, .slice (some ⟨g, 0, none⟩) L.length k]) ∧ LBox w' g (fxL a b c N L) ∧ W.heap.size ≤ g) ∧ Below W.heap.size W w' := fun W g gc h1 h2 => by
    have := refTf_ok a b c bl off g 0 cap gc L (brL a b c N L) W h1 h2 hF hG
    rw [brL_len] at this
    exact this
  have H := Lib.hid h
  clear h hr hN hf hS hF hG
  go_enter Try.func34, Try.ntmps34
  have F0 := Lib.hid (FW.n2a (w := w) (x := a) (y := b) (z := c) (v := .slice (some ⟨bl, off, none⟩) L.length cap) (T := 25) (o := .cells #[.int .i64 0, .int .i64 0, .int .i64 0, .slice none 0 0] 25))
  have R0 := Lib.hid (FW.n2b (w := w) (x := 0) (y := 0) (z := 0) (v := .slice none 0 0) (T := 25) (o := .cells #[.int .i64 a, .int .i64 b, .int .i64 c, .slice (some ⟨bl, off, none⟩) L.length cap] 25))
  go_wp2_with (fail)
  refine (c1 _ (.inr ⟨bl, off, rfl, H.out.later ba2⟩)).mono ?_
  rintro e X ⟨rfl, hw1⟩
  have b1 := bel2 hw1
  have F1 := Lib.hid (F0.out.later hw1)
  have R1 := Lib.hid (R0.out.later hw1)
  have H1 := Lib.hid (H.out.later b1)
  clear c1 hw1 F0 R0
  obtain ⟨f0, f1, f2, f3, ff, fl⟩ := F1.out
  have K5 : Hid (∀ w' : World, Below X.heap.size X w' → (w'.cell? ⟨w.heap.size, 0, none⟩ = some (.int .i64 a) ∧ w'.cell? ⟨w.heap.size, 1, none⟩ = some (.int .i64 b) ∧ w'.cell? ⟨w.heap.size, 2, none⟩ = some (.int .i64 c) ∧ w'.cell? ⟨w.heap.size, 3, none⟩ = some (.slice (some ⟨bl, off, none⟩) L.length cap))) := Lib.hid (fun w' h => ⟨held_belowG h f0, held_belowG h f1, held_belowG h f2, held_belowG h f3⟩)
  have K6 : Hid (∀ (w' : World) (g k : Nat), Below X.heap.size X w' → (((((w'.setCell ⟨w.heap.size + 1, 0, none⟩ (.int .i64 a)).setCell ⟨w.heap.size + 1, 1, none⟩ (.int .i64 b)).setCell ⟨w.heap.size + 1, 2, none⟩ (.int .i64 c)).setCell ⟨w.heap.size + 1, 3, none⟩ (.slice (some ⟨g, 0, none⟩) L.length k)).cell? ⟨w.heap.size, 0, none⟩ = some (.int .i64 a) ∧ ((((w'.setCell ⟨w.heap.size + 1, 0, none⟩ (.int .i64 a)).setCell ⟨w.heap.size + 1, 1, none⟩ (.int .i64 b)).setCell ⟨w.heap.size + 1, 2, none⟩ (.int .i64 c)).setCell ⟨w.heap.size + 1, 3, none⟩ (.slice (some ⟨g, 0, none⟩) L.length k)).cell? ⟨w.heap.size, 1, none⟩ = some (.int .i64 b) ∧ ((((w'.setCell ⟨w.heap.size + 1, 0, none⟩ (.int .i64 a)).setCell ⟨w.heap.size + 1, 1, none⟩ (.int .i64 b)).setCell ⟨w.heap.size + 1, 2, none⟩ (.int .i64 c)).setCell ⟨w.heap.size + 1, 3, none⟩ (.slice (some ⟨g, 0, none⟩) L.length k)).cell? ⟨w.heap.size, 2, none⟩ = some (.int .i64 c) ∧ ((((w'.setCell ⟨w.heap.size + 1, 0, none⟩ (.int .i64 a)).setCell ⟨w.heap.size + 1, 1, none⟩ (.int .i64 b)).setCell ⟨w.heap.size + 1, 2, none⟩ (.int .i64 c)).setCell ⟨w.heap.size + 1, 3, none⟩ (.slice (some ⟨g, 0, none⟩) L.length k)).cell? ⟨w.heap.size, 3, none⟩ = some (.slice (some ⟨bl, off, none⟩) L.length cap))) := Lib.hid (fun w' g k h => by
    obtain ⟨q0, q1, q2, q3, -, -⟩ := (F1.out.later h).grown (grown4 (w := w') (w.heap.size + 1) (.int .i64 a) (.int .i64 b) (.int .i64 c) (.slice (some ⟨g, 0, none⟩) L.length k)) (fun e => by have := Option.some.inj e; omega)
    exact ⟨q0, q1, q2, q3⟩)
  go_wp2_with (fail)
  go_region_held3 (fun w' => w'.cell? ⟨w.heap.size, 0, none⟩ = some (.int .i64 a) ∧ w'.cell? ⟨w.heap.size, 1, none⟩ = some (.int .i64 b) ∧ w'.cell? ⟨w.heap.size, 2, none⟩ = some (.int .i64 c) ∧ w'.cell? ⟨w.heap.size, 3, none⟩ = some (.slice (some ⟨bl, off, none⟩) L.length cap))
    (first
      | (with_reducible exact K5.out _ B6)
      | (with_reducible exact K6.out _ _ _ B6)
      | (with_reducible exact K5.out _ B5)
      | (with_reducible exact K5.out _ (Below.refl _ _))
      | go_keep)
    (first
      | ((with_reducible refine (c2 _ (H1.out.later (Below.drew (Below.refl _ _)))).mono ?_); rintro e w5 ⟨⟨g, k, rfl, hg, -⟩, hw5⟩; have B5 := belDG hw5; have HG := Lib.hid hg)
      | ((with_reducible refine (c3 _ _ _ (H1.out.later B5) HG.out.h).mono ?_); rintro e w6 ⟨⟨g2, k2, rfl, hg2, hge2⟩, hw6⟩; have B6 := B5.trans (hw6.mono B5.size); have s5 := B5.size; obtain ⟨r0, r1, r2, r3, rf, rl⟩ := R1.out.later B6))
  all_goals
    have rl1 := R1.out.lt
    have b6 := b1.trans (B6.mono b1.size)
    have gX := grown4 (w := w6) (w.heap.size + 1) (.int .i64 a) (.int .i64 b) (.int .i64 c) (.slice (some ⟨g2, 0, none⟩) L.length k2)
    have bX := b6.grown gX b6.size (fun j e => by cases e; omega)
    have LX := Lib.hid (hg2.grown gX (fun e => by have := Option.some.inj e; omega))
    have HBX := Lib.hid bX
    clear hw6 hw5 c2 c3 f0 f1 f2 f3 ff fl gX bX hg2 hg K5 K6 HG B5 B6 F1 H1
    go_wp2
    refine bodyPost_ret (v := .tuple #[.agg #[.int .i64 a, .int .i64 b, .int .i64 c, .slice (some ⟨g2, 0, none⟩) L.length k2], .int .i64 0]) ?_ rfl ⟨⟨g2, k2, rfl, LX.out⟩, HBX.out⟩
    simp [results, Try.results34, go_sem, r0, r1, r2, r3]
end Go.Proofs.Ytegeamfacajeeaa
