/- HeatBath of the document's answers.
Conditions: those written at each theorem. -/
import Derived.Test.YtpfhjdmgkckjfaaGreatDoorHHbC
namespace Go.Proofs.YtpfhjdmgkckjfaaGreatDoor
set_option linter.unusedVariables false
set_option linter.unusedSimpArgs false
set_option maxRecDepth 1000000
open Go.RowKit
open Um Tm Cm

set_option maxHeartbeats 6400000 in
theorem refHeat_bad (a b c p0 p1 p2 p3 p4 l d r : Int) (ao : Option Addr) (cap : Nat) (L : List Q) (w : World)
    (hm : LiesO w ao L) (hr : r ≠ 0)
    (c1 : ∀ (W : World) (_ : LiesO W ao L), Calls Tryz.prog 43 #[.agg #[.int .i64 a, .int .i64 b, .int .i64 c, .slice ao L.length cap], .agg #[.int .i64 p0, .int .i64 p1, .int .i64 p2, .int .i64 p3, .int .i64 p4], .int .i64 l] W fun e w' => e = .returned (.int .i64 r) ∧ Below W.heap.size W w') : Calls Tryz.prog 19 #[.agg #[.int .i64 a, .int .i64 b, .int .i64 c, .slice ao L.length cap], .agg #[.int .i64 p0, .int .i64 p1, .int .i64 p2, .int .i64 p3, .int .i64 p4], .int .i64 l, .int .i64 d] w fun e w' => e = .returned (.tuple #[.agg #[.int .i64 0, .int .i64 0, .int .i64 0, .slice none 0 0], .int .i64 0, .int .i64 r]) ∧ Below w.heap.size w w' := by
  have h0' : (r != 0) = true := by simpa using hr
  have h0'' : (r == 0) = false := by simpa using hr
  have H0 := Lib.hid hm
  clear hm
  clear hr
  go_enter Tryz.func19, Tryz.ntmps19
  go_wp2_with (fail)
  refine (c1 _ (H0.out.later ba3)).mono ?_
  rintro e w1 ⟨rfl, hw1⟩
  have bw1 : Below w.heap.size w w1 := bel3 hw1
  have F1 := Lib.hid (FW.n3a.later hw1)
  have E1 := Lib.hid (C5.n3b.later hw1)
  have Z1 := Lib.hid (FW.n3c.later hw1)
  have H1 := Lib.hid (H0.out.later bw1)
  have HB1 := Lib.hid bw1
  clear hw1 bw1 H0
  clear H1
  clear F1
  clear E1
  obtain ⟨z1_0, z1_1, z1_2, z1_3, z1_4, z1_5⟩ := Z1.out
  go_wp2
  refine bodyPost_ret (v := .tuple #[.agg #[.int .i64 0, .int .i64 0, .int .i64 0, .slice none 0 0], .int .i64 0, .int .i64 r]) ?_ rfl ⟨rfl, ?_⟩
  · simp [results, Tryz.results19, go_sem, z1_0, z1_1, z1_2, z1_3, z1_5]
  · have hb := HB1.out
    repeat (first | (with_reducible exact Below.refl _ _) | (with_reducible refine Below.setCell ?_ ?_ _) | (with_reducible refine Below.drew ?_) | (with_reducible refine Below.alloc ?_ ?_ _) | (with_reducible refine Below.trans ?_ (Below.mono hb ?_)) | (with_reducible exact hb.size) | omega | (simp <;> omega) | (simp <;> (have s := hb.size; omega)) | (have s0 := hb.size; (try simp at s0); (try simp); omega))
set_option maxHeartbeats 6400000 in
theorem refHeat_arg (a b c p0 p1 p2 p3 p4 l d s : Int) (ao : Option Addr) (cap : Nat) (L : List Q) (w : World)
    (hm : LiesO w ao L) (A : Array Value) (hA : R24 A) (hs : 0 ≤ s ∧ s ≤ 2400000000) (hd : ¬ (0 ≤ d ∧ d < s))
    (c1 : ∀ (W : World) (_ : LiesO W ao L), Calls Tryz.prog 43 #[.agg #[.int .i64 a, .int .i64 b, .int .i64 c, .slice ao L.length cap], .agg #[.int .i64 p0, .int .i64 p1, .int .i64 p2, .int .i64 p3, .int .i64 p4], .int .i64 l] W fun e w' => e = .returned (.int .i64 0) ∧ Below W.heap.size W w')
    (c2 : ∀ (W : World) (_ : LiesO W ao L), Calls Tryz.prog 44 #[.agg #[.int .i64 a, .int .i64 b, .int .i64 c, .slice ao L.length cap], .agg #[.int .i64 p0, .int .i64 p1, .int .i64 p2, .int .i64 p3, .int .i64 p4], .int .i64 l] W fun e w' => e = .returned (.agg A) ∧ Below W.heap.size W w')
    (cS : ∀ (W : World), Calls Tryz.prog 50 #[.agg A] W fun e w' => e = .returned (.int .i64 s) ∧ Below W.heap.size W w') : Calls Tryz.prog 19 #[.agg #[.int .i64 a, .int .i64 b, .int .i64 c, .slice ao L.length cap], .agg #[.int .i64 p0, .int .i64 p1, .int .i64 p2, .int .i64 p3, .int .i64 p4], .int .i64 l, .int .i64 d] w fun e w' => e = .returned (.tuple #[.agg #[.int .i64 0, .int .i64 0, .int .i64 0, .slice none 0 0], .int .i64 0, .int .i64 1]) ∧ Below w.heap.size w w' := by
  obtain ⟨s0, s1⟩ := hs
  have kW := fun W => within5v_any d 0 (s - 1) W false (.inr ⟨by omega, rfl⟩)
  have H0 := Lib.hid hm
  have SZ := Lib.hid hA.sz
  have OL := Lib.hid hA.ol
  have ON := Lib.hid hA.one
  clear hm hA
  clear hd
  go_enter Tryz.func19, Tryz.ntmps19
  go_wp2_with (fail)
  refine (c1 _ (H0.out.later ba3)).mono ?_
  rintro e w1 ⟨rfl, hw1⟩
  have bw1 : Below w.heap.size w w1 := bel3 hw1
  have F1 := Lib.hid (FW.n3a.later hw1)
  have E1 := Lib.hid (C5.n3b.later hw1)
  have Z1 := Lib.hid (FW.n3c.later hw1)
  have H1 := Lib.hid (H0.out.later bw1)
  have HB1 := Lib.hid bw1
  clear hw1 bw1 H0
  obtain ⟨f1_0, f1_1, f1_2, f1_3, f1_4, f1_5⟩ := F1.out
  obtain ⟨e1_0, e1_1, e1_2, e1_3, e1_4, e1_5, e1_6⟩ := E1.out
  go_wp2_with (fail)
  refine (c2 _ (H1.out)).mono ?_
  rintro e w2 ⟨rfl, hw2⟩
  clear f1_0 f1_1 f1_2 f1_3 f1_4 f1_5 e1_0 e1_1 e1_2 e1_3 e1_4 e1_5 e1_6
  have bw2 : Below w1.heap.size w1 w2 := hw2
  have H2 := Lib.hid (H1.out.later bw2)
  have F2 := Lib.hid (F1.out.later bw2)
  have E2 := Lib.hid (E1.out.later bw2)
  have Z2 := Lib.hid (Z1.out.later bw2)
  have HB2 := Lib.hid (HB1.out.trans (bw2.mono HB1.out.size))
  clear hw2 bw2 H1 F1 E1 Z1 HB1
  clear E2
  have TZ := Lib.hid (ABx.news (w := w2) (T := 29) #[.int .i64 0, .int .i64 0, .int .i64 0, .int .i64 0, .int .i64 0, .int .i64 0, .int .i64 0, .int .i64 0, .int .i64 0, .int .i64 0, .int .i64 0, .int .i64 0, .int .i64 0, .int .i64 0, .int .i64 0, .int .i64 0, .int .i64 0, .int .i64 0, .int .i64 0, .int .i64 0, .int .i64 0, .int .i64 0, .int .i64 0, .int .i64 0])
  have nx := r24_below w2 A
  have H3 := Lib.hid (H2.out.later nx)
  have F3 := Lib.hid (F2.out.later nx)
  have Z3 := Lib.hid (Z2.out.later nx)
  have HB3 := Lib.hid (HB2.out.trans (nx.mono HB2.out.size))
  have A3 : Hid (RowT _ _ _ _) := Lib.hid ⟨r24_new w2 A⟩
  clear nx HB2 H2 F2 Z2
  go_wp2_with (first | (refine wpList_store_row rfl 29 (.tmp 12) (.tmp 25) rfl w2.heap.size A rfl rfl 29 _ TZ.out.h SZ.out OL.out ON.out ?_) | (refine wpList_load_row rfl 29 (.tmp 12) rfl w2.heap.size rfl 29 A (0, 0) _ A3.out.h Tryz.underlying29 rfl SZ.out ?_))
  generalize (w2.alloc (.cells #[.int .i64 0, .int .i64 0, .int .i64 0, .int .i64 0, .int .i64 0, .int .i64 0, .int .i64 0, .int .i64 0, .int .i64 0, .int .i64 0, .int .i64 0, .int .i64 0, .int .i64 0, .int .i64 0, .int .i64 0, .int .i64 0, .int .i64 0, .int .i64 0, .int .i64 0, .int .i64 0, .int .i64 0, .int .i64 0, .int .i64 0, .int .i64 0] 29)).setRow w2.heap.size A = w3 at *
  refine (cS _).mono ?_
  rintro e w4 ⟨rfl, hw4⟩
  have bw4 : Below w3.heap.size w3 w4 := hw4
  have H4 := Lib.hid (H3.out.later bw4)
  have F4 := Lib.hid (F3.out.later bw4)
  have Z4 := Lib.hid (Z3.out.later bw4)
  have A4 := Lib.hid (A3.out.later bw4)
  have HB4 := Lib.hid (HB3.out.trans (bw4.mono HB3.out.size))
  clear hw4 bw4 H3 F3 Z3 A3 HB3
  go_wp2_with (fail)
  refine (kW _).mono ?_
  rintro e wx ⟨rfl, rfl⟩
  obtain ⟨z4_0, z4_1, z4_2, z4_3, z4_4, z4_5⟩ := Z4.out
  go_wp2
  refine bodyPost_ret (v := .tuple #[.agg #[.int .i64 0, .int .i64 0, .int .i64 0, .slice none 0 0], .int .i64 0, .int .i64 1]) ?_ rfl ⟨rfl, ?_⟩
  · simp [results, Tryz.results19, go_sem, z4_0, z4_1, z4_2, z4_3, z4_5]
  · have hb := HB4.out
    repeat (first | (with_reducible exact Below.refl _ _) | (with_reducible refine Below.setCell ?_ ?_ _) | (with_reducible refine Below.drew ?_) | (with_reducible refine Below.alloc ?_ ?_ _) | (with_reducible refine Below.trans ?_ (Below.mono hb ?_)) | (with_reducible exact hb.size) | omega | (simp <;> omega) | (simp <;> (have s := hb.size; omega)) | (have s0 := hb.size; (try simp at s0); (try simp); omega))
set_option maxHeartbeats 6400000 in
theorem refHeat_ok (a b c p0 p1 p2 p3 p4 l d s : Int) (bl off cap n k : Nat) (L : List Q) (w : World)
    (hm : Lies w bl off L) (A : Array Value) (hA : R24 A) (hl : l = n) (hn : n < L.length) (hlen : L.length ≤ 100) (hs : 0 ≤ s ∧ s ≤ 2400000000) (hd : 0 ≤ d ∧ d < s) (hk : k < 24)
    (c1 : ∀ (W : World) (_ : Lies W bl off L), Calls Tryz.prog 43 #[.agg #[.int .i64 a, .int .i64 b, .int .i64 c, .slice (some ⟨bl, off, none⟩) L.length cap], .agg #[.int .i64 p0, .int .i64 p1, .int .i64 p2, .int .i64 p3, .int .i64 p4], .int .i64 l] W fun e w' => e = .returned (.int .i64 0) ∧ Below W.heap.size W w')
    (c2 : ∀ (W : World) (_ : Lies W bl off L), Calls Tryz.prog 44 #[.agg #[.int .i64 a, .int .i64 b, .int .i64 c, .slice (some ⟨bl, off, none⟩) L.length cap], .agg #[.int .i64 p0, .int .i64 p1, .int .i64 p2, .int .i64 p3, .int .i64 p4], .int .i64 l] W fun e w' => e = .returned (.agg A) ∧ Below W.heap.size W w')
    (cS : ∀ (W : World), Calls Tryz.prog 50 #[.agg A] W fun e w' => e = .returned (.int .i64 s) ∧ Below W.heap.size W w')
    (cK : ∀ (W : World), Calls Tryz.prog 51 #[.agg A, .int .i64 d] W fun e w' => e = .returned (.int .i64 k) ∧ Below W.heap.size W w') : Calls Tryz.prog 19 #[.agg #[.int .i64 a, .int .i64 b, .int .i64 c, .slice (some ⟨bl, off, none⟩) L.length cap], .agg #[.int .i64 p0, .int .i64 p1, .int .i64 p2, .int .i64 p3, .int .i64 p4], .int .i64 l, .int .i64 d] w fun e w' => (∃ g gk : Nat, e = .returned (.tuple #[.agg #[.int .i64 a, .int .i64 b, .int .i64 c, .slice (some ⟨g, 0, none⟩) L.length gk], .int .i64 k, .int .i64 0]) ∧ LBox w' g (L.set n (small (k : Int))) ∧ w.heap.size ≤ g) ∧ Below w.heap.size w w' := by
  obtain ⟨s0, s1⟩ := hs
  have kW := fun W => within5v_any d 0 (s - 1) W true (.inl ⟨by omega, by omega, rfl⟩)
  have cU := fun (W : World) => unit5_any k W (by omega) (by omega)
  have H0 := Lib.hid hm
  have SZ := Lib.hid hA.sz
  have OL := Lib.hid hA.ol
  have ON := Lib.hid hA.one
  clear hm hA
  subst hl
  have cW := fun (W : World) (h : Lies W bl off L) => refWith_any a b c n (small (k : Int)) bl off cap L W h (by omega) hlen (by omega) (by omega)
  simp only [Int.toNat_natCast] at cW
  clear hd
  generalize small (k : Int) = u at *
  go_enter Tryz.func19, Tryz.ntmps19
  go_wp2_with (fail)
  refine (c1 _ (H0.out.later ba3)).mono ?_
  rintro e w1 ⟨rfl, hw1⟩
  have bw1 : Below w.heap.size w w1 := bel3 hw1
  have F1 := Lib.hid (FW.n3a.later hw1)
  have E1 := Lib.hid (C5.n3b.later hw1)
  have Z1 := Lib.hid (FW.n3c.later hw1)
  have H1 := Lib.hid (H0.out.later bw1)
  have HB1 := Lib.hid bw1
  clear hw1 bw1 H0
  obtain ⟨f1_0, f1_1, f1_2, f1_3, f1_4, f1_5⟩ := F1.out
  obtain ⟨e1_0, e1_1, e1_2, e1_3, e1_4, e1_5, e1_6⟩ := E1.out
  go_wp2_with (fail)
  refine (c2 _ (H1.out)).mono ?_
  rintro e w2 ⟨rfl, hw2⟩
  clear f1_0 f1_1 f1_2 f1_3 f1_4 f1_5 e1_0 e1_1 e1_2 e1_3 e1_4 e1_5 e1_6
  have bw2 : Below w1.heap.size w1 w2 := hw2
  have H2 := Lib.hid (H1.out.later bw2)
  have F2 := Lib.hid (F1.out.later bw2)
  have E2 := Lib.hid (E1.out.later bw2)
  have Z2 := Lib.hid (Z1.out.later bw2)
  have HB2 := Lib.hid (HB1.out.trans (bw2.mono HB1.out.size))
  clear hw2 bw2 H1 F1 E1 Z1 HB1
  clear E2
  have TZ := Lib.hid (ABx.news (w := w2) (T := 29) #[.int .i64 0, .int .i64 0, .int .i64 0, .int .i64 0, .int .i64 0, .int .i64 0, .int .i64 0, .int .i64 0, .int .i64 0, .int .i64 0, .int .i64 0, .int .i64 0, .int .i64 0, .int .i64 0, .int .i64 0, .int .i64 0, .int .i64 0, .int .i64 0, .int .i64 0, .int .i64 0, .int .i64 0, .int .i64 0, .int .i64 0, .int .i64 0])
  have nx := r24_below w2 A
  have H3 := Lib.hid (H2.out.later nx)
  have F3 := Lib.hid (F2.out.later nx)
  have Z3 := Lib.hid (Z2.out.later nx)
  have HB3 := Lib.hid (HB2.out.trans (nx.mono HB2.out.size))
  have A3 : Hid (RowT _ _ _ _) := Lib.hid ⟨r24_new w2 A⟩
  clear nx HB2 H2 F2 Z2
  go_wp2_with (first | (refine wpList_store_row rfl 29 (.tmp 12) (.tmp 25) rfl w2.heap.size A rfl rfl 29 _ TZ.out.h SZ.out OL.out ON.out ?_) | (refine wpList_load_row rfl 29 (.tmp 12) rfl w2.heap.size rfl 29 A (0, 0) _ A3.out.h Tryz.underlying29 rfl SZ.out ?_))
  generalize (w2.alloc (.cells #[.int .i64 0, .int .i64 0, .int .i64 0, .int .i64 0, .int .i64 0, .int .i64 0, .int .i64 0, .int .i64 0, .int .i64 0, .int .i64 0, .int .i64 0, .int .i64 0, .int .i64 0, .int .i64 0, .int .i64 0, .int .i64 0, .int .i64 0, .int .i64 0, .int .i64 0, .int .i64 0, .int .i64 0, .int .i64 0, .int .i64 0, .int .i64 0] 29)).setRow w2.heap.size A = w3 at *
  refine (cS _).mono ?_
  rintro e w4 ⟨rfl, hw4⟩
  have bw4 : Below w3.heap.size w3 w4 := hw4
  have H4 := Lib.hid (H3.out.later bw4)
  have F4 := Lib.hid (F3.out.later bw4)
  have Z4 := Lib.hid (Z3.out.later bw4)
  have A4 := Lib.hid (A3.out.later bw4)
  have HB4 := Lib.hid (HB3.out.trans (bw4.mono HB3.out.size))
  clear hw4 bw4 H3 F3 Z3 A3 HB3
  go_wp2_with (fail)
  refine (kW _).mono ?_
  rintro e wx ⟨rfl, rfl⟩
  go_wp2_with ((refine wpList_load_row rfl 29 (.tmp 12) rfl _ rfl 29 A (0, 0) _ A4.out.h Tryz.underlying29 rfl SZ.out ?_))
  refine (cK _).mono ?_
  rintro e w5 ⟨rfl, hw5⟩
  have bw5 : Below w4.heap.size w4 w5 := hw5
  have H5 := Lib.hid (H4.out.later bw5)
  have F5 := Lib.hid (F4.out.later bw5)
  have Z5 := Lib.hid (Z4.out.later bw5)
  have A5 := Lib.hid (A4.out.later bw5)
  have HB5 := Lib.hid (HB4.out.trans (bw5.mono HB4.out.size))
  clear hw5 bw5 H4 F4 Z4 A4 HB4
  clear A5
  obtain ⟨f0, f1, f2, f3, ff, fl⟩ := F5.out
  have BW := HB5.out
  have BD : Below w5.heap.size w5 w5.drew := ⟨rfl, rfl, rfl, Nat.le_refl _, fun _ _ => rfl⟩
  have K5 : Hid (∀ w' : World, Below w5.heap.size w5 w' → (w'.cell? ⟨w.heap.size, 0, none⟩ = some (.int .i64 a) ∧ w'.cell? ⟨w.heap.size, 1, none⟩ = some (.int .i64 b) ∧ w'.cell? ⟨w.heap.size, 2, none⟩ = some (.int .i64 c) ∧ w'.cell? ⟨w.heap.size, 3, none⟩ = some (.slice (some ⟨bl, off, none⟩) L.length cap))) := Lib.hid (fun w' h => ⟨held_belowG h f0, held_belowG h f1, held_belowG h f2, held_belowG h f3⟩)
  have K6 : Hid (∀ (w' : World) (v0 v1 v2 v3 : Value), Below w5.heap.size w5 w' → (((((w'.setCell ⟨w.heap.size + 1 + 1, 0, none⟩ v0).setCell ⟨w.heap.size + 1 + 1, 1, none⟩ v1).setCell ⟨w.heap.size + 1 + 1, 2, none⟩ v2).setCell ⟨w.heap.size + 1 + 1, 3, none⟩ v3).cell? ⟨w.heap.size, 0, none⟩ = some (.int .i64 a) ∧ ((((w'.setCell ⟨w.heap.size + 1 + 1, 0, none⟩ v0).setCell ⟨w.heap.size + 1 + 1, 1, none⟩ v1).setCell ⟨w.heap.size + 1 + 1, 2, none⟩ v2).setCell ⟨w.heap.size + 1 + 1, 3, none⟩ v3).cell? ⟨w.heap.size, 1, none⟩ = some (.int .i64 b) ∧ ((((w'.setCell ⟨w.heap.size + 1 + 1, 0, none⟩ v0).setCell ⟨w.heap.size + 1 + 1, 1, none⟩ v1).setCell ⟨w.heap.size + 1 + 1, 2, none⟩ v2).setCell ⟨w.heap.size + 1 + 1, 3, none⟩ v3).cell? ⟨w.heap.size, 2, none⟩ = some (.int .i64 c) ∧ ((((w'.setCell ⟨w.heap.size + 1 + 1, 0, none⟩ v0).setCell ⟨w.heap.size + 1 + 1, 1, none⟩ v1).setCell ⟨w.heap.size + 1 + 1, 2, none⟩ v2).setCell ⟨w.heap.size + 1 + 1, 3, none⟩ v3).cell? ⟨w.heap.size, 3, none⟩ = some (.slice (some ⟨bl, off, none⟩) L.length cap))) := Lib.hid (fun w' v0 v1 v2 v3 h => by
    have g := grown_setCells (w.heap.size + 1 + 1) [v0, v1, v2, v3] 0 w'
    have hne : some w.heap.size ≠ some (w.heap.size + 1 + 1) := by simp; omega
    exact ⟨g.cell (held_belowG h f0) hne, g.cell (held_belowG h f1) hne, g.cell (held_belowG h f2) hne, g.cell (held_belowG h f3) hne⟩)
  go_wp2_with (fail)
  go_region_held3 (fun w' => (w'.cell? ⟨w.heap.size, 0, none⟩ = some (.int .i64 a) ∧ w'.cell? ⟨w.heap.size, 1, none⟩ = some (.int .i64 b) ∧ w'.cell? ⟨w.heap.size, 2, none⟩ = some (.int .i64 c) ∧ w'.cell? ⟨w.heap.size, 3, none⟩ = some (.slice (some ⟨bl, off, none⟩) L.length cap)))
    (first | (with_reducible exact K6.out _ _ _ _ _ B6) | (with_reducible exact K5.out _ B6) | (with_reducible exact K5.out _ B5) | (with_reducible exact K5.out _ (Below.refl _ _)) | go_keep)
    (first
      | ((with_reducible refine (cU _).mono ?_); rintro e z5 ⟨rfl, hw5⟩; have B5 : Below w5.heap.size w5 z5 := belDG hw5)
      | ((with_reducible refine (cW _ (H5.out.later B5)).mono ?_); rintro e z6 ⟨⟨g, gk, rfl, hg, hge⟩, hw6⟩; have B6 := B5.trans (hw6.mono B5.size); obtain ⟨z0, z1, z2, z3, zf, zl⟩ := Z5.out.later B6; have HG := Lib.hid hg; clear hg))
  have GZ := grown_setCells (w.heap.size + 1 + 1) [.int .i64 a, .int .i64 b, .int .i64 c, .slice (some ⟨g, 0, none⟩) L.length gk] 0 z6
  have hb := BW.trans (B6.mono BW.size)
  have hgz : w.heap.size + 1 + 1 < g := by have h1 := Z5.out.lt; have h2 := B5.size; have : z5.heap.size ≤ g := hge; omega
  go_wp2
  refine bodyPost_ret (v := .tuple #[.agg #[.int .i64 a, .int .i64 b, .int .i64 c, .slice (some ⟨g, 0, none⟩) L.length gk], .int .i64 k, .int .i64 0]) ?_ rfl ⟨⟨g, gk, rfl, HG.out.grown GZ (by simp; omega), by omega⟩, hb.grown GZ hb.size (fun j hj => by cases hj; omega)⟩
  simp [results, Tryz.results19, go_sem, z0, z1, z2, z3, zl]
end Go.Proofs.YtpfhjdmgkckjfaaGreatDoor
