/- The links of a plaquette, and the plaquettes of a link, as the document's answers make them.
Conditions: those written at each theorem. -/
import Derived.Test.YtpfhjdmgkckjfaaGreatDoorALinksC
import Derived.Test.YtpfhjdmgkckjfaaGreatDoorAThrC
import Derived.Test.YtpfhjdmgkckjfaaGreatDoorAShelf
import Derived.Test.YtpfhjdmgkckjfaaGreatDoorADraws
namespace Go.Proofs.YtpfhjdmgkckjfaaGreatDoor
set_option linter.unusedVariables false
set_option linter.unusedSimpArgs false
set_option maxRecDepth 1000000
open Go.RowKit
open Cm Tm

set_option maxHeartbeats 1600000 in
theorem links0_any (a b c p : Int) (w : World) (hz : Sz a b c) (h0 : 0 ≤ p) (h1 : p < 3 * (a * b * c)) (hr : p % 3 = 0) : Calls Tryz.prog 105 #[.agg #[.int .i64 a, .int .i64 b, .int .i64 c], .int .i64 p] w fun e w' => e = .returned (.agg #[.int .i64 (3 * (p / 3) + 0), .int .i64 (3 * nx a b c (p / 3) (0 + 1) + 1), .int .i64 (3 * nx a b c (p / 3) (1 + 1) + 0), .int .i64 (3 * (p / 3) + 1)]) ∧ Below w.heap.size w w' := by
  have c1 := fun W : World => ahead_any a b c (p / 3) 0 W hz (by omega) (by omega) (by omega) (by omega)
  have c2 := fun W : World => ahead_any a b c (p / 3) 1 W hz (by omega) (by omega) (by omega) (by omega)
  obtain ⟨n1, n2⟩ := nx_rng hz (p / 3) (0 + 1)
  obtain ⟨n3, n4⟩ := nx_rng hz (p / 3) (1 + 1)
  have p4 := hz.p
  have hs0 : 0 ≤ p / 3 := by omega
  have hs1 : p / 3 < 16 := by omega
  generalize nx a b c (p / 3) (0 + 1) = x at *
  generalize nx a b c (p / 3) (1 + 1) = y at *
  have x1 : x < 16 := by omega
  have y1 : y < 16 := by omega
  have e1 : IntKind.i64.wrap (3 * (p / 3)) = 3 * (p / 3) := IntWalk.i64_in _ (by omega)
  have e2 : IntKind.i64.wrap (3 * x) = 3 * x := IntWalk.i64_in _ (by omega)
  have e3 : IntKind.i64.wrap (3 * y) = 3 * y := IntWalk.i64_in _ (by omega)
  have e4 : IntKind.i64.wrap (3 * (p / 3) + 0) = 3 * (p / 3) + 0 := IntWalk.i64_in _ (by omega)
  have e5 : IntKind.i64.wrap (3 * (p / 3) + 1) = 3 * (p / 3) + 1 := IntWalk.i64_in _ (by omega)
  have e6 : IntKind.i64.wrap (3 * x + 1) = 3 * x + 1 := IntWalk.i64_in _ (by omega)
  have e7 : IntKind.i64.wrap (3 * y + 0) = 3 * y + 0 := IntWalk.i64_in _ (by omega)
  have hb : ∀ k : Int, k = 0 ∨ k = 1 ∨ k = 2 → ((p % 3) == k) = decide (0 = k) := fun k _ => by rw [hr]; rfl
  have q1 : ((p % 3) == 1) = decide ((0 : Int) = 1) := by rw [hr]; rfl
  have q2 : ((p % 3) == 2) = decide ((0 : Int) = 2) := by rw [hr]; rfl
  clear hz h1 hr n1 n2 n3 n4 p4 hb
  have kc := @Tail.cell_re; have kc1 : ∀ (W : World) (o : Obj) (d : Nat) (os : Array Obj) (a : Addr), a.block ≤ W.heap.size → (Sort.grow (redrawn (W.alloc o) d) os).cell? a = (W.alloc o).cell? a := fun W o d os a h => Tail.cell_re (W.alloc o) d os a (Nat.lt_of_le_of_lt h (by simp))
  go_enter Tryz.func105, Tryz.ntmps105
  go_wp2
  refine Tail.region_tail_below 23 (by kernel_rfl) (by kernel_rfl) ?_
  simp only [List.take_succ_cons, List.take_zero, List.drop_succ_cons, List.drop_zero]
  repeat (go_big_quiet_step (first | (with_reducible exact Calls.regrown_of (c1 _)) | (with_reducible exact Calls.regrown_of (c2 _))))
  refine wpQuiet_nil ?_
  intro w1 hw1
  have hc1 := Tail.cells hw1
  have z1 := Nat.lt_of_lt_of_le (n := w.heap.size + 1) (by simp <;> omega) hw1.size
  go_wp2
  refine bodyPost_ret (v := .agg #[.int .i64 (3 * (p / 3) + 0), .int .i64 (3 * x + 1), .int .i64 (3 * y + 0), .int .i64 (3 * (p / 3) + 1)]) ?_ rfl ⟨rfl, ?_⟩
  · simp [results, Tryz.results105, go_sem, hc1, z1]
  · repeat (first | (with_reducible exact Below.refl _ _) | (with_reducible refine Below.setCell ?_ ?_ _) | (with_reducible refine Below.drew ?_) | (with_reducible refine Below.alloc ?_ ?_ _) | (with_reducible refine Below.trans ?_ (Below.mono hw1 ?_)) | (with_reducible exact hw1.size) | omega | (simp <;> omega) | (simp <;> (have s := hw1.size; omega)) | (have s0 := hw1.size; (try simp at s0); (try simp); omega))
set_option maxHeartbeats 1600000 in
theorem links1_any (a b c p : Int) (w : World) (hz : Sz a b c) (h0 : 0 ≤ p) (h1 : p < 3 * (a * b * c)) (hr : p % 3 = 1) : Calls Tryz.prog 105 #[.agg #[.int .i64 a, .int .i64 b, .int .i64 c], .int .i64 p] w fun e w' => e = .returned (.agg #[.int .i64 (3 * (p / 3) + 0), .int .i64 (3 * nx a b c (p / 3) (0 + 1) + 2), .int .i64 (3 * nx a b c (p / 3) (2 + 1) + 0), .int .i64 (3 * (p / 3) + 2)]) ∧ Below w.heap.size w w' := by
  have c1 := fun W : World => ahead_any a b c (p / 3) 0 W hz (by omega) (by omega) (by omega) (by omega)
  have c2 := fun W : World => ahead_any a b c (p / 3) 2 W hz (by omega) (by omega) (by omega) (by omega)
  obtain ⟨n1, n2⟩ := nx_rng hz (p / 3) (0 + 1)
  obtain ⟨n3, n4⟩ := nx_rng hz (p / 3) (2 + 1)
  have p4 := hz.p
  have hs0 : 0 ≤ p / 3 := by omega
  have hs1 : p / 3 < 16 := by omega
  generalize nx a b c (p / 3) (0 + 1) = x at *
  generalize nx a b c (p / 3) (2 + 1) = y at *
  have x1 : x < 16 := by omega
  have y1 : y < 16 := by omega
  have e1 : IntKind.i64.wrap (3 * (p / 3)) = 3 * (p / 3) := IntWalk.i64_in _ (by omega)
  have e2 : IntKind.i64.wrap (3 * x) = 3 * x := IntWalk.i64_in _ (by omega)
  have e3 : IntKind.i64.wrap (3 * y) = 3 * y := IntWalk.i64_in _ (by omega)
  have e4 : IntKind.i64.wrap (3 * (p / 3) + 0) = 3 * (p / 3) + 0 := IntWalk.i64_in _ (by omega)
  have e5 : IntKind.i64.wrap (3 * (p / 3) + 2) = 3 * (p / 3) + 2 := IntWalk.i64_in _ (by omega)
  have e6 : IntKind.i64.wrap (3 * x + 2) = 3 * x + 2 := IntWalk.i64_in _ (by omega)
  have e7 : IntKind.i64.wrap (3 * y + 0) = 3 * y + 0 := IntWalk.i64_in _ (by omega)
  have hb : ∀ k : Int, k = 0 ∨ k = 1 ∨ k = 2 → ((p % 3) == k) = decide (1 = k) := fun k _ => by rw [hr]; rfl
  have q1 : ((p % 3) == 1) = decide ((1 : Int) = 1) := by rw [hr]; rfl
  have q2 : ((p % 3) == 2) = decide ((1 : Int) = 2) := by rw [hr]; rfl
  clear hz h1 hr n1 n2 n3 n4 p4 hb
  have kc := @Tail.cell_re; have kc1 : ∀ (W : World) (o : Obj) (d : Nat) (os : Array Obj) (a : Addr), a.block ≤ W.heap.size → (Sort.grow (redrawn (W.alloc o) d) os).cell? a = (W.alloc o).cell? a := fun W o d os a h => Tail.cell_re (W.alloc o) d os a (Nat.lt_of_le_of_lt h (by simp))
  go_enter Tryz.func105, Tryz.ntmps105
  go_wp2
  refine Tail.region_tail_below 23 (by kernel_rfl) (by kernel_rfl) ?_
  simp only [List.take_succ_cons, List.take_zero, List.drop_succ_cons, List.drop_zero]
  repeat (go_big_quiet_step (first | (with_reducible exact Calls.regrown_of (c1 _)) | (with_reducible exact Calls.regrown_of (c2 _))))
  refine wpQuiet_nil ?_
  intro w1 hw1
  have hc1 := Tail.cells hw1
  have z1 := Nat.lt_of_lt_of_le (n := w.heap.size + 1) (by simp <;> omega) hw1.size
  go_wp2
  refine bodyPost_ret (v := .agg #[.int .i64 (3 * (p / 3) + 0), .int .i64 (3 * x + 2), .int .i64 (3 * y + 0), .int .i64 (3 * (p / 3) + 2)]) ?_ rfl ⟨rfl, ?_⟩
  · simp [results, Tryz.results105, go_sem, hc1, z1]
  · repeat (first | (with_reducible exact Below.refl _ _) | (with_reducible refine Below.setCell ?_ ?_ _) | (with_reducible refine Below.drew ?_) | (with_reducible refine Below.alloc ?_ ?_ _) | (with_reducible refine Below.trans ?_ (Below.mono hw1 ?_)) | (with_reducible exact hw1.size) | omega | (simp <;> omega) | (simp <;> (have s := hw1.size; omega)) | (have s0 := hw1.size; (try simp at s0); (try simp); omega))
set_option maxHeartbeats 1600000 in
theorem links2_any (a b c p : Int) (w : World) (hz : Sz a b c) (h0 : 0 ≤ p) (h1 : p < 3 * (a * b * c)) (hr : p % 3 = 2) : Calls Tryz.prog 105 #[.agg #[.int .i64 a, .int .i64 b, .int .i64 c], .int .i64 p] w fun e w' => e = .returned (.agg #[.int .i64 (3 * (p / 3) + 1), .int .i64 (3 * nx a b c (p / 3) (1 + 1) + 2), .int .i64 (3 * nx a b c (p / 3) (2 + 1) + 1), .int .i64 (3 * (p / 3) + 2)]) ∧ Below w.heap.size w w' := by
  have c1 := fun W : World => ahead_any a b c (p / 3) 1 W hz (by omega) (by omega) (by omega) (by omega)
  have c2 := fun W : World => ahead_any a b c (p / 3) 2 W hz (by omega) (by omega) (by omega) (by omega)
  obtain ⟨n1, n2⟩ := nx_rng hz (p / 3) (1 + 1)
  obtain ⟨n3, n4⟩ := nx_rng hz (p / 3) (2 + 1)
  have p4 := hz.p
  have hs0 : 0 ≤ p / 3 := by omega
  have hs1 : p / 3 < 16 := by omega
  generalize nx a b c (p / 3) (1 + 1) = x at *
  generalize nx a b c (p / 3) (2 + 1) = y at *
  have x1 : x < 16 := by omega
  have y1 : y < 16 := by omega
  have e1 : IntKind.i64.wrap (3 * (p / 3)) = 3 * (p / 3) := IntWalk.i64_in _ (by omega)
  have e2 : IntKind.i64.wrap (3 * x) = 3 * x := IntWalk.i64_in _ (by omega)
  have e3 : IntKind.i64.wrap (3 * y) = 3 * y := IntWalk.i64_in _ (by omega)
  have e4 : IntKind.i64.wrap (3 * (p / 3) + 1) = 3 * (p / 3) + 1 := IntWalk.i64_in _ (by omega)
  have e5 : IntKind.i64.wrap (3 * (p / 3) + 2) = 3 * (p / 3) + 2 := IntWalk.i64_in _ (by omega)
  have e6 : IntKind.i64.wrap (3 * x + 2) = 3 * x + 2 := IntWalk.i64_in _ (by omega)
  have e7 : IntKind.i64.wrap (3 * y + 1) = 3 * y + 1 := IntWalk.i64_in _ (by omega)
  have hb : ∀ k : Int, k = 0 ∨ k = 1 ∨ k = 2 → ((p % 3) == k) = decide (2 = k) := fun k _ => by rw [hr]; rfl
  have q1 : ((p % 3) == 1) = decide ((2 : Int) = 1) := by rw [hr]; rfl
  have q2 : ((p % 3) == 2) = decide ((2 : Int) = 2) := by rw [hr]; rfl
  clear hz h1 hr n1 n2 n3 n4 p4 hb
  have kc := @Tail.cell_re; have kc1 : ∀ (W : World) (o : Obj) (d : Nat) (os : Array Obj) (a : Addr), a.block ≤ W.heap.size → (Sort.grow (redrawn (W.alloc o) d) os).cell? a = (W.alloc o).cell? a := fun W o d os a h => Tail.cell_re (W.alloc o) d os a (Nat.lt_of_le_of_lt h (by simp))
  go_enter Tryz.func105, Tryz.ntmps105
  go_wp2
  refine Tail.region_tail_below 23 (by kernel_rfl) (by kernel_rfl) ?_
  simp only [List.take_succ_cons, List.take_zero, List.drop_succ_cons, List.drop_zero]
  repeat (go_big_quiet_step (first | (with_reducible exact Calls.regrown_of (c1 _)) | (with_reducible exact Calls.regrown_of (c2 _))))
  refine wpQuiet_nil ?_
  intro w1 hw1
  have hc1 := Tail.cells hw1
  have z1 := Nat.lt_of_lt_of_le (n := w.heap.size + 1) (by simp <;> omega) hw1.size
  go_wp2
  refine bodyPost_ret (v := .agg #[.int .i64 (3 * (p / 3) + 1), .int .i64 (3 * x + 2), .int .i64 (3 * y + 1), .int .i64 (3 * (p / 3) + 2)]) ?_ rfl ⟨rfl, ?_⟩
  · simp [results, Tryz.results105, go_sem, hc1, z1]
  · repeat (first | (with_reducible exact Below.refl _ _) | (with_reducible refine Below.setCell ?_ ?_ _) | (with_reducible refine Below.drew ?_) | (with_reducible refine Below.alloc ?_ ?_ _) | (with_reducible refine Below.trans ?_ (Below.mono hw1 ?_)) | (with_reducible exact hw1.size) | omega | (simp <;> omega) | (simp <;> (have s := hw1.size; omega)) | (have s0 := hw1.size; (try simp at s0); (try simp); omega))
theorem links_ex (a b c p : Int) (hz : Sz a b c) (h0 : 0 ≤ p) (h1 : p < 3 * (a * b * c)) : ∃ x0 x1 x2 x3 : Int, lks a b c p = [x0, x1, x2, x3] ∧ ∀ w : World, Calls Tryz.prog 105 #[.agg #[.int .i64 a, .int .i64 b, .int .i64 c], .int .i64 p] w fun e w' => e = .returned (.agg #[.int .i64 x0, .int .i64 x1, .int .i64 x2, .int .i64 x3]) ∧ Below w.heap.size w w' := by
  have h : p % 3 = 0 ∨ p % 3 = 1 ∨ p % 3 = 2 := by omega
  rcases h with h | h | h
  · exact ⟨_, _, _, _, by simp only [lks, h]; rfl, fun w => links0_any a b c p w hz h0 h1 h⟩
  · exact ⟨_, _, _, _, by simp only [lks, h]; rfl, fun w => links1_any a b c p w hz h0 h1 h⟩
  · exact ⟨_, _, _, _, by simp only [lks, h]; rfl, fun w => links2_any a b c p w hz h0 h1 h⟩
/-- the plaquettes of a link among the first ones -/
def thrK (a b c l : Int) (k : Nat) : List Int := ((List.range k).map Int.ofNat).filter (has a b c l)
theorem thrK_succ (a b c l : Int) (k : Nat) : thrK a b c l (k + 1) = thrK a b c l k ++ if has a b c l k then [(k : Int)] else [] := by
  unfold thrK
  rw [List.range_succ, List.map_append, List.filter_append]
  congr 1
  simp only [List.map_cons, List.map_nil, Int.ofNat_eq_natCast]
  by_cases h : has a b c l k <;> simp [List.filter_cons, h]
theorem thrK_len (a b c l : Int) (k : Nat) : (thrK a b c l k).length ≤ k := by
  unfold thrK
  exact Nat.le_trans (List.length_filter_le _ _) (by simp)
theorem has_of {a b c l p x0 x1 x2 x3 : Int} (h : lks a b c p = [x0, x1, x2, x3]) : has a b c l p = decide (x0 = l ∨ x1 = l ∨ x2 = l ∨ x3 = l) := by
  unfold has
  rw [h, Bool.eq_iff_iff, List.contains_iff_mem, decide_eq_true_iff]
  simp only [List.mem_cons, List.not_mem_nil, or_false]
  constructor <;> intro h <;> omega

set_option maxHeartbeats 3200000 in
theorem refThroughS_ok (a b c l : Int) (w : World) (hz : Sz a b c) : Calls Tryz.prog 82 #[.agg #[.int .i64 a, .int .i64 b, .int .i64 c], .int .i64 l] w fun e w' => ∃ ao k, e = .returned (.slice ao (thr a b c l).length k) ∧ LiesOI w' ao (thr a b c l) ∧ Below w.heap.size w w' := by
  obtain ⟨i0, hi, hi0, hi1, hi2⟩ := info_parts infoI
  obtain ⟨N, hN, hN0, hN48⟩ := size_ex hz
  obtain ⟨p1, p2, p3, p4⟩ := mul_rng hz.a1 hz.a4 hz.b1 hz.b4 hz.c1 hz.c4
  have e1 : 3 * a * b * c = (N : Int) := by rw [hN]; simp only [Int.mul_assoc]
  have e2 : 3 * a * b = 3 * (a * b) := Int.mul_assoc _ _ _
  have r1 : 0 ≤ 3 * a * b ∧ 3 * a * b ≤ 48 := by omega
  obtain ⟨r1, r2⟩ := r1
  have a1 := hz.a1
  have a4 := hz.a4
  have HL := Lib.hid (fun (k : Nat) (hk : k < N) => links_ex a b c k hz (by omega) (by omega))
  have HS := Lib.hid (thrK_succ a b c l)
  have HN := Lib.hid (thrK_len a b c l)
  have HE := Lib.hid (show thrK a b c l N = thr a b c l by unfold thr thrK; rw [← hN]; rfl)
  have E1 := Lib.hid e1
  clear hz e1 e2 p1 p2 p3 p4 hN
  go_enter Tryz.func82, Tryz.ntmps82
  go_wp2
  have hbx : ABox (w.alloc (.cells #[.int .i64 a, .int .i64 b, .int .i64 c] 22)) w.heap.size a b c := ⟨by simp [go_sem], by simp [go_sem], by simp [go_sem], by simp⟩
  have hB : Below w.heap.size w (w.alloc (.cells #[.int .i64 a, .int .i64 b, .int .i64 c] 22)) := by repeat (first | (with_reducible exact Below.refl _ _) | (with_reducible refine Below.setCell ?_ ?_ _) | (with_reducible refine Below.drew ?_) | (with_reducible refine Below.alloc ?_ ?_ _) | omega | (simp <;> omega))
  go_loopw [5, 6, 7] (fun f q _ wr => ∃ (k : Nat) (v : Value), k ≤ N ∧ q = .int .i64 k ∧ v = f ∧ Hid (wr.ownsRow (w.heap.size + 1) 3 1 v (thrK a b c l k).length ((thrK a b c l k).map vi)) ∧ ABox wr w.heap.size a b c ∧ Below w.heap.size w wr) (fun _ q _ _ => N - (intOf q).toNat)
  case atStart => exact ⟨0, _, by omega, rfl, rfl, Lib.hid (World.ownsRow_nil _ _ _ _), hbx, hB⟩
  case round =>
    obtain ⟨k, v, hk, rfl, rfl, hown, hbx1, hb⟩ := hrel
    clear hbx hB
    have hbs := hb.size
    have HBX := Lib.hid hbx1
    obtain ⟨d0, d1, d2, dl⟩ := hbx1
    have r3 : 0 ≤ 3 * a * b * c ∧ 3 * a * b * c ≤ 48 := by rw [E1.out]; omega
    obtain ⟨r3, r4⟩ := r3
    by_cases hlt : k < N
    · have i1 : (k : Int) < 3 * a * b * c := by rw [E1.out]; omega
      obtain ⟨x0, x1, x2, x3, hx, c3⟩ := HL.out k hlt
      have hh := has_of (l := l) hx
      have hsk := HS.out k
      have hl2 := HN.out k
      clear hx
      by_cases hany : x0 = l ∨ x1 = l ∨ x2 = l ∨ x3 = l
      · rw [hh, if_pos (by simpa using hany)] at hsk
        have HSK := Lib.hid hsk
        have hw : (x0 == l) = true ∨ ((x0 == l) = false ∧ (x1 == l) = true) ∨ ((x0 == l) = false ∧ (x1 == l) = false ∧ (x2 == l) = true) ∨ ((x0 == l) = false ∧ (x1 == l) = false ∧ (x2 == l) = false ∧ (x3 == l) = true) := by
          simp only [beq_eq_false_iff_ne, beq_iff_eq]
          by_cases h0 : x0 = l
          · exact .inl h0
          · by_cases h1 : x1 = l
            · exact .inr (.inl ⟨h0, h1⟩)
            · by_cases h2 : x2 = l
              · exact .inr (.inr (.inl ⟨h0, h1, h2⟩))
              · exact .inr (.inr (.inr ⟨h0, h1, h2, by omega⟩))
        clear hh hsk hany
        rcases hw with h0 | ⟨h0, h1⟩ | ⟨h0, h1, h2⟩ | ⟨h0, h1, h2, h3⟩
        all_goals
          go_wp2_with (first | ((with_reducible refine (c3 _).mono ?_); clear c3; rintro e w2 ⟨rfl, hw2⟩; have hc2 := Tail.cells hw2; have hm2 := hw2.size) | (at_builtin; refine wpList_append_own _ rfl (.tmp 46) (.tmp 48) 67 rfl (w.heap.size + 1) 3 i0 _ 1 8 Tryz.underlying67 hi hi0 hi1 hi2 rfl (by decide) v (thrK a b c l k).length ((thrK a b c l k).map vi) rfl (((owned_later hown.out hw2).alloc _).alloc _) ⟨w2.heap.size + 1, 0, none⟩ 1 1 [vi (k : Int)] rfl rfl (one_cell (by simp [go_sem, vi])) (one_one _) (by unfold maxLen; omega) (by omega) (by simp; omega) ?_; intro v' w4 hown4 hgrow4 _))
          have hfr := owned_from hown.out
          have hne := owned_ne hown.out (b := w.heap.size) (by omega)
          have hb1 : Below w.heap.size w w2 := by repeat (first | (with_reducible exact Below.refl _ _) | (with_reducible refine Below.setCell ?_ ?_ _) | (with_reducible refine Below.drew ?_) | (with_reducible refine Below.alloc ?_ ?_ _) | (with_reducible refine Below.trans ?_ (Below.mono hw2 ?_)) | (with_reducible refine Below.trans ?_ (Below.mono hb ?_)) | (with_reducible exact hw2.size) | (with_reducible exact hb.size) | omega | (simp <;> omega) | (simp <;> (have s := hw2.size; omega)) | (simp <;> (have s := hb.size; omega)) | (have s0 := hw2.size; (try simp at s0); have s1 := hb.size; (try simp at s1); (try simp); omega))
          have hb2 := hb1.alloc hb1.size (.cells #[.int .i64 x0, .int .i64 x1, .int .i64 x2, .int .i64 x3] 130)
          have hb4 := (hb2.alloc hb2.size _).grown hgrow4 (by have := hb1.size; simp; omega) (fun j hj => by have := hfr j hj; omega)
          have hbx4 := (((HBX.out.later hw2).later ((Below.refl _ _).alloc (Nat.le_refl _) _)).later ((Below.refl _ _).alloc (Nat.le_refl _) _)).grown hgrow4 hne
          have ho : w4.ownsRow (w.heap.size + 1) 3 1 v' (thrK a b c l (k + 1)).length ((thrK a b c l (k + 1)).map vi) := by
            rw [HSK.out, List.length_append, List.map_append]
            exact hown4
          clear hown4 hgrow4 hown hw2
          go_wp2
          exact ⟨⟨k + 1, _, by omega, by go_num, rfl, Lib.hid ho, hbx4, hb4⟩, by simp [intOf]; omega⟩
      · rw [hh, if_neg (by simpa using hany), List.append_nil] at hsk
        have HSK := Lib.hid hsk
        have h0 : (x0 == l) = false := by simp only [beq_eq_false_iff_ne]; omega
        have h1 : (x1 == l) = false := by simp only [beq_eq_false_iff_ne]; omega
        have h2 : (x2 == l) = false := by simp only [beq_eq_false_iff_ne]; omega
        have h3 : (x3 == l) = false := by simp only [beq_eq_false_iff_ne]; omega
        clear hh hsk hany
        go_wp2_with ((with_reducible refine (c3 _).mono ?_); clear c3; rintro e w2 ⟨rfl, hw2⟩; have hc2 := Tail.cells hw2; have hm2 := hw2.size)
        have hb1 : Below w.heap.size w w2 := by repeat (first | (with_reducible exact Below.refl _ _) | (with_reducible refine Below.setCell ?_ ?_ _) | (with_reducible refine Below.drew ?_) | (with_reducible refine Below.alloc ?_ ?_ _) | (with_reducible refine Below.trans ?_ (Below.mono hw2 ?_)) | (with_reducible refine Below.trans ?_ (Below.mono hb ?_)) | (with_reducible exact hw2.size) | (with_reducible exact hb.size) | omega | (simp <;> omega) | (simp <;> (have s := hw2.size; omega)) | (simp <;> (have s := hb.size; omega)) | (have s0 := hw2.size; (try simp at s0); have s1 := hb.size; (try simp at s1); (try simp); omega))
        have hb2 := hb1.alloc hb1.size (.cells #[.int .i64 x0, .int .i64 x1, .int .i64 x2, .int .i64 x3] 130)
        have hbx4 := (HBX.out.later hw2).later ((Below.refl _ _).alloc (Nat.le_refl _) (.cells #[.int .i64 x0, .int .i64 x1, .int .i64 x2, .int .i64 x3] 130))
        have ho := (owned_later hown.out hw2).alloc (.cells #[.int .i64 x0, .int .i64 x1, .int .i64 x2, .int .i64 x3] 130)
        rw [← HSK.out] at ho
        exact ⟨⟨k + 1, _, by omega, by go_num, rfl, Lib.hid ho, hbx4, hb2⟩, by simp [intOf]; omega⟩
    · obtain rfl : k = N := by omega
      have i1 : ¬ (k : Int) < 3 * a * b * c := by rw [E1.out]; omega
      have hown' : wr.ownsRow (w.heap.size + 1) 3 1 v (thr a b c l).length ((thr a b c l).map vi) := by
        have := hown.out
        rwa [HE.out] at this
      obtain ⟨ao, c', rfl, hl⟩ := owned_liesOI hown'
      clear hown hown'
      go_wp2
      go_ret
      exact ⟨ao, ⟨c', rfl⟩, hl, hb⟩

end Go.Proofs.YtpfhjdmgkckjfaaGreatDoor
