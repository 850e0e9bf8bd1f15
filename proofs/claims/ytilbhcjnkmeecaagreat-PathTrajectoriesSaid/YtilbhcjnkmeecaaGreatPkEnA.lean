/- The kinetic energy, as the program and the document's answers reckon it.
Conditions: the lists lie in memory as it is written at each theorem. -/
import Derived.Test.YtilbhcjnkmeecaaGreatPkKickB
import Derived.Test.YtilbhcjnkmeecaaGreatPkMathA
import Derived.Test.YtilbhcjnkmeecaaGreatPkPlaqA
import Derived.Test.YtilbhcjnkmeecaaGreatPkDist
namespace Go.Proofs.YtilbhcjnkmeecaaGreat
set_option linter.unusedVariables false
set_option linter.unusedSimpArgs false
set_option maxRecDepth 1000000
open Go.RowKit
open Um Tm Cm Km

theorem kin_take3 {l : List Int} {k : Nat} (h : k * 3 + 2 < l.length) : kin (l.take ((k + 1) * 3)) = kin (l.take (k * 3)) + ctr (l[k * 3]'(by omega)) * ctr (l[k * 3]'(by omega)) + ctr (l[k * 3 + 1]'(by omega)) * ctr (l[k * 3 + 1]'(by omega)) + ctr l[k * 3 + 2] * ctr l[k * 3 + 2] := by
  rw [take3 h, kin_three]
theorem kin_take_rng (l : List Int) (m : Nat) : 0 ≤ kin (l.take m) ∧ kin (l.take m) ≤ 16 * m := by
  have := kin_rng (l.take m)
  have h := List.length_take_le m l
  omega
set_option maxHeartbeats 3200000 in
theorem kinetic_ok (a b c : Int) (ao : Option Addr) (cap pb po pc n : Nat) (L : List Q) (ns l : List Int) (w : World) (h : LiesO w ao L) (hp : LiesI w pb po l) (hl : l.length = n * 3) (hr : numsR a b c L ns 0) (hv : vkR L.length n l 0 0) (hlen : L.length ≤ 48) : Calls Tryz.prog 96 #[.agg #[.int .i64 a, .int .i64 b, .int .i64 c, .slice ao L.length cap], .slice (some ⟨pb, po, none⟩) n pc] w fun e w' => e = .returned (.tuple #[.int .i64 (kin l), .int .i64 0]) ∧ Below w.heap.size w w' := by
  have H := Lib.hid h
  have HP := Lib.hid hp
  have HL := Lib.hid hl
  have hn : n ≤ 48 := by rcases hv with ⟨h, -⟩ | ⟨-, h, h'⟩ | ⟨-, h, -⟩ <;> omega
  have c1 : ∀ W : World, LiesO W ao L → LiesI W pb po l → Calls Tryz.prog 58 #[.agg #[.int .i64 a, .int .i64 b, .int .i64 c, .slice ao L.length cap], .slice (some ⟨pb, po, none⟩) n pc] W fun e w' => e = .returned (.int .i64 0) ∧ Below W.heap.size W w' := fun W h h2 => validateK_any a b c 0 0 ao (some ⟨pb, po, none⟩) cap pc n L ns l W h (.inr ⟨pb, po, rfl, h2⟩) hl hr hv (by omega)
  have c2 := fun (x : Int) (W : World) => center_any x W
  have HR := Lib.hid (fun m => kin_take_rng l m)
  have H0 := Lib.hid (show kin (l.take 0) = 0 by rw [List.take_zero]; rfl)
  clear h hp hr hv hl
  go_enter Tryz.func96, Tryz.ntmps96
  go_wp2_with ((with_reducible refine (c1 _ (H.out.later (by repeat (first | (with_reducible exact Below.refl _ _) | (with_reducible refine Below.setCell ?_ ?_ _) | (with_reducible refine Below.drew ?_) | (with_reducible refine Below.alloc ?_ ?_ _) | omega | (simp <;> omega)))) (HP.out.later (by repeat (first | (with_reducible exact Below.refl _ _) | (with_reducible refine Below.setCell ?_ ?_ _) | (with_reducible refine Below.drew ?_) | (with_reducible refine Below.alloc ?_ ?_ _) | omega | (simp <;> omega))))).mono ?_); rintro e w1 ⟨rfl, hw1⟩)
  have b0 : Below w.heap.size w w1 := by repeat (first | (with_reducible exact Below.refl _ _) | (with_reducible refine Below.setCell ?_ ?_ _) | (with_reducible refine Below.drew ?_) | (with_reducible refine Below.alloc ?_ ?_ _) | (with_reducible refine Below.trans ?_ (Below.mono hw1 ?_)) | (with_reducible exact hw1.size) | omega | (simp <;> omega) | (simp <;> (have s := hw1.size; omega)) | (have s0 := hw1.size; (try simp at s0); (try simp); omega))
  clear hw1 c1
  go_loopw [7, 9, 11, 20] (fun sv _ _ q wr => ∃ k : Nat, k ≤ n ∧ q = .int .i64 k ∧ sv = .int .i64 (kin (l.take (k * 3))) ∧ Below w.heap.size w wr) (fun _ _ _ q _ => n - (intOf q).toNat)
  case atStart => exact ⟨0, by omega, rfl, by rw [Nat.zero_mul, H0.out], b0⟩
  case round =>
    obtain ⟨k, hk, rfl, rfl, hb⟩ := hrel
    clear b0
    by_cases hlt : k < n
    · have i1 : (k : Int) < (n : Int) := by omega
      have i2 : k * 3 + 2 < l.length := by have := HL.out; omega
      have hbs := hb.size
      have x0 := HP.out.later hb (k * 3) _ (List.getElem?_eq_getElem (by omega))
      have x1 := HP.out.later hb (k * 3 + 1) _ (List.getElem?_eq_getElem (by omega))
      have x2 := HP.out.later hb (k * 3 + 2) _ (List.getElem?_eq_getElem i2)
      simp only [← Nat.add_assoc] at x1 x2
      have q1 := kin_take3 i2
      obtain ⟨r0, r1⟩ := HR.out (k * 3)
      have d0 := c2 (l[k * 3]'(by omega))
      have d1 := c2 (l[k * 3 + 1]'(by omega))
      have d2 := c2 l[k * 3 + 2]
      obtain ⟨s0, s1⟩ := sq_rng (l[k * 3]'(by omega))
      obtain ⟨s2, s3⟩ := sq_rng (l[k * 3 + 1]'(by omega))
      obtain ⟨s4, s5⟩ := sq_rng l[k * 3 + 2]
      have j0 := ixK0 (l[k * 3]'(by omega)) (l[k * 3 + 1]'(by omega)) l[k * 3 + 2]
      have j1 := ixK1 (l[k * 3]'(by omega)) (l[k * 3 + 1]'(by omega)) l[k * 3 + 2]
      have j2 := ixK2 (l[k * 3]'(by omega)) (l[k * 3 + 1]'(by omega)) l[k * 3 + 2]
      generalize ctr (l[k * 3]'(by omega)) = u0 at *
      generalize ctr (l[k * 3 + 1]'(by omega)) = u1 at *
      generalize ctr l[k * 3 + 2] = u2 at *
      generalize l[k * 3]'(by omega) = p0 at *
      generalize l[k * 3 + 1]'(by omega) = p1 at *
      generalize l[k * 3 + 2] = p2 at *
      generalize kin (l.take (k * 3)) = s at *
      have Q1 := Lib.hid q1
      clear q1 i2 c2
      go_wp2
      refine wp_loop_rounds 4 ?_
      rw [rounds_succ]
      go_wp2_with ((with_reducible refine (d0 _).mono ?_); rintro e wa ⟨rfl, rfl⟩)
      rw [rounds_succ]
      go_wp2_with ((with_reducible refine (d1 _).mono ?_); rintro e wa ⟨rfl, rfl⟩)
      rw [rounds_succ]
      go_wp2_with ((with_reducible refine (d2 _).mono ?_); rintro e wa ⟨rfl, rfl⟩)
      rw [rounds_succ]
      go_wp2
      exact ⟨⟨k + 1, by omega, by go_num, by rw [Q1.out], by repeat (first | (with_reducible exact Below.refl _ _) | (with_reducible refine Below.setCell ?_ ?_ _) | (with_reducible refine Below.drew ?_) | (with_reducible refine Below.alloc ?_ ?_ _) | (with_reducible refine Below.trans ?_ (Below.mono hb ?_)) | (with_reducible exact hb.size) | omega | (simp <;> omega) | (simp <;> (have s := hb.size; omega)) | (have s0 := hb.size; (try simp at s0); (try simp); omega))⟩, by simp [intOf]; omega⟩
    · obtain rfl : k = n := by omega
      have e : l.take (k * 3) = l := List.take_of_length_le (by rw [HL.out]; exact Nat.le_refl _)
      go_wp2
      go_ret2
      exact ⟨by rw [e]; rfl, hb⟩
set_option maxHeartbeats 3200000 in
theorem kin6_any (pb po pc n : Nat) (l : List Int) (w : World) (hp : LiesI w pb po l) (hl : l.length = n * 3) (hn : n ≤ 48) : Calls Tryz.prog 49 #[.slice (some ⟨pb, po, none⟩) n pc] w fun e w' => e = .returned (.int .i64 (kin l)) ∧ Below w.heap.size w w' := by
  have HP := Lib.hid hp
  have HL := Lib.hid hl
  have c2 := fun (x : Int) (W : World) => refCenter_any x W
  have HR := Lib.hid (fun m => kin_take_rng l m)
  have H0 := Lib.hid (show kin (l.take 0) = 0 by rw [List.take_zero]; rfl)
  clear hp hl
  have kc := @Tail.cell_re
  have kc1 : ∀ (W : World) (o : Obj) (d : Nat) (os : Array Obj) (a : Addr), a.block ≤ W.heap.size → (Sort.grow (redrawn (W.alloc o) d) os).cell? a = (W.alloc o).cell? a := fun W o d os a h => Tail.cell_re (W.alloc o) d os a (Nat.lt_of_le_of_lt h (by simp))
  go_enter Tryz.func49, Tryz.ntmps49
  go_wp2
  go_loopw [3, 4, 5] (fun sv q _ wr => ∃ k : Nat, k ≤ n ∧ q = .int .i64 k ∧ sv = .int .i64 (kin (l.take (k * 3))) ∧ Below w.heap.size w wr) (fun _ q _ _ => n - (intOf q).toNat)
  case atStart => exact ⟨0, by omega, rfl, by rw [Nat.zero_mul, H0.out], Below.refl _ _⟩
  case round =>
    obtain ⟨k, hk, rfl, rfl, hb⟩ := hrel
    by_cases hlt : k < n
    · have i1 : (k : Int) < (n : Int) := by omega
      have i2 : k * 3 + 2 < l.length := by have := HL.out; omega
      have hbs := hb.size
      have g0 : l[k * 3]? = some l[k * 3] := List.getElem?_eq_getElem (by omega)
      have g1 : l[k * 3 + 1]? = some l[k * 3 + 1] := List.getElem?_eq_getElem (by omega)
      have g2 : l[k * 3 + 2]? = some l[k * 3 + 2] := List.getElem?_eq_getElem i2
      have q1 := kin_take3 i2
      obtain ⟨r0, r1⟩ := HR.out (k * 3)
      have d0 := c2 (l[k * 3]'(by omega))
      have d1 := c2 (l[k * 3 + 1]'(by omega))
      have d2 := c2 l[k * 3 + 2]
      obtain ⟨s0, s1⟩ := sq_rng (l[k * 3]'(by omega))
      obtain ⟨s2, s3⟩ := sq_rng (l[k * 3 + 1]'(by omega))
      obtain ⟨s4, s5⟩ := sq_rng l[k * 3 + 2]
      generalize ctr (l[k * 3]'(by omega)) = u0 at *
      generalize ctr (l[k * 3 + 1]'(by omega)) = u1 at *
      generalize ctr l[k * 3 + 2] = u2 at *
      generalize l[k * 3]'(by omega) = p0 at *
      generalize l[k * 3 + 1]'(by omega) = p1 at *
      generalize l[k * 3 + 2] = p2 at *
      generalize kin (l.take (k * 3)) = s at *
      have Q1 := Lib.hid q1
      have G0 := Lib.hid g0
      have G1 := Lib.hid g1
      have G2 := Lib.hid g2
      have hpb : pb < w.heap.size := World.block_lt_of_cell? w _ (HP.out (k * 3) _ g0)
      clear q1 i2 c2 g0 g1 g2
      have x0 := HP.out.later hb (k * 3) _ G0.out
      have lb : pb < wr.heap.size := World.block_lt_of_cell? wr _ x0
      go_wp2
      refine wp_loop_rounds 4 ?_
      rw [rounds_succ]
      go_wp2
      refine Tail.region_below (by kernel_rfl) (by kernel_rfl) ?_
      repeat (go_big_quiet_step (first | (with_reducible exact Calls.regrown_of (d0 _))))
      refine wpQuiet_nil ?_
      intro wa hwa
      have x1 := (HP.out.later hb).later hwa (k * 3 + 1) _ G1.out
      have l1 : pb < wa.heap.size := World.block_lt_of_cell? wa _ x1
      simp only [← Nat.add_assoc] at x1
      clear x0
      go_wp2
      rw [rounds_succ]
      go_wp2
      refine Tail.region_below (by kernel_rfl) (by kernel_rfl) ?_
      repeat (go_big_quiet_step (first | (with_reducible exact Calls.regrown_of (d1 _))))
      refine wpQuiet_nil ?_
      intro wc hwc
      have x2 := ((HP.out.later hb).later hwa).later hwc (k * 3 + 2) _ G2.out
      have l2 : pb < wc.heap.size := World.block_lt_of_cell? wc _ x2
      simp only [← Nat.add_assoc] at x2
      clear x1
      go_wp2
      rw [rounds_succ]
      go_wp2
      refine Tail.region_below (by kernel_rfl) (by kernel_rfl) ?_
      repeat (go_big_quiet_step (first | (with_reducible exact Calls.regrown_of (d2 _))))
      refine wpQuiet_nil ?_
      intro wd hwd
      clear x2
      go_wp2
      rw [rounds_succ]
      go_wp2
      exact ⟨⟨k + 1, by omega, by go_num, by rw [Q1.out], by repeat (first | (with_reducible exact Below.refl _ _) | (with_reducible refine Below.setCell ?_ ?_ _) | (with_reducible refine Below.drew ?_) | (with_reducible refine Below.alloc ?_ ?_ _) | (with_reducible refine Below.trans ?_ (Below.mono hwd ?_)) | (with_reducible refine Below.trans ?_ (Below.mono hwc ?_)) | (with_reducible refine Below.trans ?_ (Below.mono hwa ?_)) | (with_reducible refine Below.trans ?_ (Below.mono hb ?_)) | (with_reducible exact hwd.size) | (with_reducible exact hwc.size) | (with_reducible exact hwa.size) | (with_reducible exact hb.size) | omega | (simp <;> omega) | (simp <;> (have s := hwd.size; omega)) | (simp <;> (have s := hwc.size; omega)) | (simp <;> (have s := hwa.size; omega)) | (simp <;> (have s := hb.size; omega)) | (have s0 := hwd.size; (try simp at s0); have s1 := hwc.size; (try simp at s1); have s2 := hwa.size; (try simp at s2); have s3 := hb.size; (try simp at s3); (try simp); omega))⟩, by simp [intOf]; omega⟩
    · obtain rfl : k = n := by omega
      have e : l.take (k * 3) = l := List.take_of_length_le (by rw [HL.out]; exact Nat.le_refl _)
      go_wp2
      go_ret
      exact ⟨by rw [e]; rfl, hb⟩
end Go.Proofs.YtilbhcjnkmeecaaGreat

/- The potential energy, as the program and the document's answers reckon it.
Conditions: the lists lie in memory as it is written at each theorem. -/
namespace Go.Proofs.YtilbhcjnkmeecaaGreat
set_option linter.unusedVariables false
set_option linter.unusedSimpArgs false
set_option maxRecDepth 1000000
open Go.RowKit
open Um Tm Cm Km

theorem pq_S {a b c : Int} {L : List Q} (hF : Fl a b c L) (h : ∀ x ∈ L, IsS x) {i : Nat} (hi : (i : Int) < 3 * (a * b * c)) : IsS (pq a b c L i) :=
  al_S hF h _ _ (by omega) (by omega) (pth_steps _)
theorem pqs_S {a b c : Int} {L : List Q} (hF : Fl a b c L) (h : ∀ x ∈ L, IsS x) {k : Nat} (hk : (k : Int) ≤ 3 * (a * b * c)) : ∀ x ∈ pqs a b c L k, IsS x := by
  intro x hx
  simp only [pqs, List.mem_map, List.mem_range] at hx
  obtain ⟨i, hi, rfl⟩ := hx
  exact pq_S hF h (by omega)
/-- a field that is small: its links, its sizes -/
theorem small_parts {a b c : Int} {L : List Q} {ns : List Int} (hr : numsR a b c L ns 0) : fldR a b c L 0 ∧ Fl a b c L ∧ (∀ x ∈ L, IsS x) ∧ smR L ns true := by
  rcases hr with ⟨_, h', _⟩ | ⟨hr, ⟨hq, -⟩ | ⟨-, h⟩⟩
  · exact absurd rfl h'
  · obtain ⟨z, hn, hv⟩ := fldR_ok hr
    refine ⟨hr, ⟨z, hn, hv⟩, fun x hx => ?_, hq⟩
    obtain ⟨i, hi, rfl⟩ := List.getElem_of_mem hx
    rcases hq with ⟨-, hq⟩ | ⟨h, -⟩
    · obtain ⟨m, -, hm⟩ := hq.2 i _ hi (List.getElem?_eq_getElem hi)
      rcases hm with ⟨k, hk, he, -⟩ | ⟨-, -, h⟩
      · exact ⟨k, hk, he⟩
      · cases h
    · cases h
  · omega
theorem pot_take {l : List Q} {k : Nat} (h : k < l.length) : pot (l.take (k + 1)) = pot (l.take k) + (2 - trI l[k]) := by
  rw [List.take_succ_eq_append_getElem h, pot_snoc]
theorem pot_take_rng {l : List Q} (h : ∀ x ∈ l, IsS x) (m : Nat) : 0 ≤ pot (l.take m) ∧ pot (l.take m) ≤ 4 * m := by
  have := pot_rng (l.take m) (fun x hx => h x (List.mem_of_mem_take hx))
  have h := List.length_take_le m l
  omega
set_option maxHeartbeats 3200000 in
theorem potential_ok (a b c : Int) (bl off cap N : Nat) (L : List Q) (ns : List Int) (w : World) (hl : Lies w bl off L) (hr : numsR a b c L ns 0) (hN : (N : Int) = a * b * c) : Calls Tryz.prog 97 #[.agg #[.int .i64 a, .int .i64 b, .int .i64 c, .slice (some ⟨bl, off, none⟩) L.length cap]] w fun e w' => e = .returned (.tuple #[.int .i64 (pot (pqs a b c L (3 * N))), .int .i64 0]) ∧ Below w.heap.size w w' := by
  obtain ⟨hfr, hF, hS, -⟩ := small_parts hr
  have hlen := fld_len hfr
  have hF' := hF.n
  obtain ⟨-, -, p3, -⟩ := mul_rng hF.z.a1 hF.z.a4 hF.z.b1 hF.z.b4 hF.z.c1 hF.z.c4
  have hN0 : 0 < N := by omega
  have c1 := fun (W : World) (h : Lies W bl off L) => checkField_any a b c 0 (some ⟨bl, off, none⟩) cap L ns W (.inr ⟨bl, off, rfl, h⟩) hr (by omega)
  have c2 : ∀ (W : World), Lies W bl off L → Calls Tryz.prog 119 #[.agg #[.int .i64 a, .int .i64 b, .int .i64 c, .slice (some ⟨bl, off, none⟩) L.length cap]] W fun e w' => (∃ g k : Nat, e = .returned (.tuple #[.slice (some ⟨g, 0, none⟩) (3 * N) k, .int .i64 0]) ∧ Lies w' g 0 (pqs a b c L (3 * N))) ∧ Below W.heap.size W w' := fun W h => (plaquettes_good a b c bl off cap N L W h hF hfr hF.z hN (by omega)).mono fun e w' ⟨v, he, ho, hb⟩ => by
    obtain ⟨g, k, rfl, hg⟩ := owned5_some ho (by omega)
    rw [pqs_plqs] at ho
    exact ⟨⟨g, k, he, owned_lies (T := 40) (base := W.heap.size) (cap := k) (by rw [pqs_len]; exact ho)⟩, hb⟩
  have hPS := pqs_S hF hS (k := 3 * N) (by omega)
  have hPL := pqs_len a b c L (3 * N)
  have c3 := fun (x : Q) (hx : IsS x) (W : World) => trace_ok x W hx.V
  have H := Lib.hid hl
  have n48 : 3 * N ≤ 48 := by omega
  clear hl hr hfr hF hS hF' hN hlen p3 hN0
  generalize pqs a b c L (3 * N) = P at *
  generalize 3 * N = m at *
  have HP := Lib.hid hPS
  have HL := Lib.hid hPL
  have H0 := Lib.hid (show pot (P.take 0) = 0 by rw [List.take_zero]; rfl)
  clear hPS hPL
  go_enter Tryz.func97, Tryz.ntmps97
  go_wp2_with (first | ((with_reducible refine (c1 _ (H.out.later (by repeat (first | (with_reducible exact Below.refl _ _) | (with_reducible refine Below.setCell ?_ ?_ _) | (with_reducible refine Below.drew ?_) | (with_reducible refine Below.alloc ?_ ?_ _) | omega | (simp <;> omega))))).mono ?_); clear c1; rintro e w1 ⟨rfl, hw1⟩; have hc1 := Tail.cells hw1; have zw10 := Nat.lt_of_lt_of_le (n := w.heap.size) (by simp <;> omega) hw1.size) | ((with_reducible refine (c2 _ (H.out.later (by repeat (first | (with_reducible exact Below.refl _ _) | (with_reducible refine Below.setCell ?_ ?_ _) | (with_reducible refine Below.drew ?_) | (with_reducible refine Below.alloc ?_ ?_ _) | (with_reducible refine Below.trans ?_ (Below.mono hw1 ?_)) | (with_reducible exact hw1.size) | omega | (simp <;> omega) | (simp <;> (have s := hw1.size; omega)) | (have s0 := hw1.size; (try simp at s0); (try simp); omega))))).mono ?_); clear c2; rintro e w2 ⟨⟨g, k, rfl, hg⟩, hw2⟩; have HG := Lib.hid hg; clear hg))
  have b0 : Below w.heap.size w w2 := by repeat (first | (with_reducible exact Below.refl _ _) | (with_reducible refine Below.setCell ?_ ?_ _) | (with_reducible refine Below.drew ?_) | (with_reducible refine Below.alloc ?_ ?_ _) | (with_reducible refine Below.trans ?_ (Below.mono hw2 ?_)) | (with_reducible refine Below.trans ?_ (Below.mono hw1 ?_)) | (with_reducible exact hw2.size) | (with_reducible exact hw1.size) | omega | (simp <;> omega) | (simp <;> (have s := hw2.size; omega)) | (simp <;> (have s := hw1.size; omega)) | (have s0 := hw2.size; (try simp at s0); have s1 := hw1.size; (try simp at s1); (try simp); omega))
  clear hw1 hc1 zw10
  go_loopw [7, 9, 10, 11, 27] (fun sv _ _ _ q wr => ∃ k : Nat, k ≤ m ∧ q = .int .i64 k ∧ sv = .int .i64 (pot (P.take k)) ∧ Below w.heap.size w wr ∧ Below w2.heap.size w2 wr) (fun _ _ _ _ q _ => m - (intOf q).toNat)
  case atStart => exact ⟨0, by omega, rfl, by rw [H0.out], b0, Below.refl _ _⟩
  case round =>
    obtain ⟨k, hk, rfl, rfl, hb, hb2⟩ := hrel
    clear b0
    by_cases hlt : k < m
    · have i1 : (k : Int) < (m : Int) := by omega
      have i2 : k < P.length := by have := HL.out; omega
      have hbs := hb.size
      have hbs2 := hb2.size
      have hs2 := hw2.size
      obtain ⟨l0, l1, l2, l3, l4⟩ := HG.out.later hb2 k _ (List.getElem?_eq_getElem i2)
      simp only [Nat.zero_add] at l0 l1 l2 l3 l4
      have q1 := pot_take i2
      have hx := HP.out _ (List.getElem_mem i2)
      obtain ⟨t0, t1, t2⟩ := hx.tr
      have d0 := c3 _ hx
      rw [t0] at d0
      obtain ⟨r0, r1⟩ := pot_take_rng HP.out k
      generalize pot (P.take k) = s at *
      generalize trI P[k] = t at *
      generalize P[k] = x at *
      have Q1 := Lib.hid q1
      clear q1 i2 hx t0 c3
      go_wp2_with ((with_reducible refine (d0 _).mono ?_); rintro e w3 ⟨rfl, hw3⟩)
      exact ⟨⟨k + 1, by omega, by go_num, by rw [Q1.out], by repeat (first | (with_reducible exact Below.refl _ _) | (with_reducible refine Below.setCell ?_ ?_ _) | (with_reducible refine Below.drew ?_) | (with_reducible refine Below.alloc ?_ ?_ _) | (with_reducible refine Below.trans ?_ (Below.mono hw3 ?_)) | (with_reducible refine Below.trans ?_ (Below.mono hb ?_)) | (with_reducible exact hw3.size) | (with_reducible exact hb.size) | omega | (simp <;> omega) | (simp <;> (have s := hw3.size; omega)) | (simp <;> (have s := hb.size; omega)) | (have s0 := hw3.size; (try simp at s0); have s1 := hb.size; (try simp at s1); (try simp); omega)), by repeat (first | (with_reducible exact Below.refl _ _) | (with_reducible refine Below.setCell ?_ ?_ _) | (with_reducible refine Below.drew ?_) | (with_reducible refine Below.alloc ?_ ?_ _) | (with_reducible refine Below.trans ?_ (Below.mono hw3 ?_)) | (with_reducible refine Below.trans ?_ (Below.mono hb2 ?_)) | (with_reducible exact hw3.size) | (with_reducible exact hb2.size) | omega | (simp <;> omega) | (simp <;> (have s := hw3.size; omega)) | (simp <;> (have s := hb2.size; omega)) | (have s0 := hw3.size; (try simp at s0); have s1 := hb2.size; (try simp at s1); (try simp); omega))⟩, by simp [intOf]; omega⟩
    · obtain rfl : k = m := by omega
      have e : P.take k = P := List.take_of_length_le (by rw [HL.out]; exact Nat.le_refl _)
      go_wp2
      go_ret2
      exact ⟨by rw [e]; rfl, hb⟩
theorem infoR : (Tryz.prog.info? 153).map (fun i => (i.zero, i.size, i.bytes)) = some (some (.agg #[.int .i64 0, .int .i64 0]), 2, 16) := by kernel_rfl
theorem two_news {w : World} {b : Nat} {vs : List Value} {v0 v1 : Value} (hv : vs = [v0, v1]) (h0 : w.cell? ⟨b, 0, none⟩ = some v0) (h1 : w.cell? ⟨b, 1, none⟩ = some v1) : ∀ j u, vs[j]? = some u → w.cell? (Addr.add ⟨b, 0, none⟩ j) = some u := by
  subst hv
  intro j u hj
  match j, hj with
  | 0, hj => simp at hj; subst hj; exact h0
  | 1, hj => simp at hj; subst hj; exact h1
  | n + 2, hj => simp at hj
theorem two_ones (x y : Int) : ∀ u ∈ [vi x, vi y], u.oneCell' = true := fun u hu => by
  simp at hu
  rcases hu with rfl | rfl <;> rfl
theorem owned_liesN {w : World} {base sz : Nat} {T : TypeId} {v : Value} {n : Nat} {l : List Int} (h : w.ownsRow base T sz v n (l.map vi)) (hn : 0 < n) (hl : l.length = n * sz) : ∃ g cap, v = .slice (some ⟨g, 0, none⟩) n cap ∧ base ≤ g ∧ LiesI w g 0 l := by
  have hc := h.2
  rcases hc with ⟨_, h0⟩ | ⟨g, cap, cur, rfl, hg, _⟩
  · omega
  · refine ⟨g, cap, rfl, hg, fun i x hx => ?_⟩
    have hi : i < l.length := (List.getElem?_eq_some_iff.1 hx).1
    rw [Nat.zero_add, h.cellAt i (by omega), List.getElem?_map, hx]
    rfl
/-- the traces of units, as a list of fractions -/
def trl (P : List Q) : List Int := P.flatMap fun x => [trI x, 1]
theorem trl_len (P : List Q) : (trl P).length = P.length * 2 := flat_len _ 2 (fun _ => rfl) P
theorem trl_get (P : List Q) (k : Nat) (x : Q) (h : P[k]? = some x) : (trl P)[k * 2]? = some (trI x) := by
  have := flat_get (fun x : Q => [trI x, 1]) 2 (fun _ => rfl) P k x h 0 (by omega)
  rw [Nat.add_zero] at this
  exact this
theorem trl_take {P : List Q} {k : Nat} (h : k < P.length) : (trl (P.take (k + 1))).map vi = (trl (P.take k)).map vi ++ [vi (trI P[k]), vi 1] := by
  unfold trl
  rw [take_flat _ P k h, List.map_append]
  rfl
set_option maxHeartbeats 3200000 in
theorem traces3_ok (a b c : Int) (bl off cap N : Nat) (L : List Q) (ns : List Int) (w : World) (hl : Lies w bl off L) (hr : numsR a b c L ns 0) (hN : (N : Int) = a * b * c) : Calls Tryz.prog 103 #[.agg #[.int .i64 a, .int .i64 b, .int .i64 c, .slice (some ⟨bl, off, none⟩) L.length cap]] w fun e w' => (∃ g k : Nat, e = .returned (.tuple #[.slice (some ⟨g, 0, none⟩) (3 * N) k, .int .i64 0]) ∧ LiesI w' g 0 (trl (pqs a b c L (3 * N))) ∧ w.heap.size ≤ g) ∧ Below w.heap.size w w' := by
  obtain ⟨hfr, hF, hS, -⟩ := small_parts hr
  have hlen := fld_len hfr
  have hF' := hF.n
  obtain ⟨-, -, p3, -⟩ := mul_rng hF.z.a1 hF.z.a4 hF.z.b1 hF.z.b4 hF.z.c1 hF.z.c4
  have hN0 : 0 < N := by omega
  have c2 := fun (W : World) (h : Lies W bl off L) => refPlaquettes_ok a b c bl off cap N L W h hF hN
  have hPS := pqs_S hF hS (k := 3 * N) (by omega)
  have hPL := pqs_len a b c L (3 * N)
  have c3 := fun (x : Q) (hx : IsS x) (W : World) => refTrace_ok x W hx.V
  obtain ⟨i0, hi, hz0, hz1, hz2⟩ := info_parts infoR
  have H := Lib.hid hl
  have n48 : 3 * N ≤ 48 := by omega
  have m0 : 0 < 3 * N := by omega
  clear hl hr hfr hF hS hF' hN hlen p3 hN0
  generalize pqs a b c L (3 * N) = P at *
  generalize 3 * N = m at *
  have HP := Lib.hid hPS
  have HL := Lib.hid hPL
  have H0 := Lib.hid (show (trl (P.take 0)).map vi = [] by rw [List.take_zero]; rfl)
  clear hPS hPL
  go_enter Tryz.func103, Tryz.ntmps103
  go_wp2_with ((with_reducible refine (c2 _ (H.out.later (by repeat (first | (with_reducible exact Below.refl _ _) | (with_reducible refine Below.setCell ?_ ?_ _) | (with_reducible refine Below.drew ?_) | (with_reducible refine Below.alloc ?_ ?_ _) | omega | (simp <;> omega))))).mono ?_); clear c2; rintro e w2 ⟨g, kg, rfl, hg, hw2⟩; have HG := Lib.hid hg; clear hg)
  have b0 : Below w.heap.size w w2 := by repeat (first | (with_reducible exact Below.refl _ _) | (with_reducible refine Below.setCell ?_ ?_ _) | (with_reducible refine Below.drew ?_) | (with_reducible refine Below.alloc ?_ ?_ _) | (with_reducible refine Below.trans ?_ (Below.mono hw2 ?_)) | (with_reducible exact hw2.size) | omega | (simp <;> omega) | (simp <;> (have s := hw2.size; omega)) | (have s0 := hw2.size; (try simp at s0); (try simp); omega))
  go_loopw [6, 7, 8, 9] (fun f q _ _ wr => ∃ (k : Nat) (v : Value), k ≤ m ∧ q = .int .i64 k ∧ v = f ∧ Hid (wr.ownsRow w2.heap.size 153 2 v k ((trl (P.take k)).map vi)) ∧ Below w2.heap.size w2 wr) (fun _ q _ _ _ => m - (intOf q).toNat)
  case atStart => exact ⟨0, _, by omega, rfl, rfl, Lib.hid (by rw [H0.out]; exact World.ownsRow_nil _ _ _ _), Below.refl _ _⟩
  case round =>
    obtain ⟨k, v, hk, rfl, rfl, hown, hb⟩ := hrel
    have hbs := hb.size
    have hs2 := hw2.size
    by_cases hlt : k < m
    · have i1 : (k : Int) < (m : Int) := by omega
      have i2 : k < P.length := by have := HL.out; omega
      obtain ⟨l0, l1, l2, l3, l4⟩ := HG.out.later hb k _ (List.getElem?_eq_getElem i2)
      simp only [Nat.zero_add] at l0 l1 l2 l3 l4
      have q1 := trl_take i2
      have hx := HP.out _ (List.getElem_mem i2)
      obtain ⟨t0, t1, t2⟩ := hx.tr
      have d0 := c3 _ hx
      rw [t0] at d0
      generalize trI P[k] = t at *
      generalize P[k] = x at *
      have Q1 := Lib.hid q1
      clear q1 i2 hx t0 c3
      go_wp2_with (first | ((with_reducible refine (d0 _).mono ?_); clear d0; rintro e w3 ⟨rfl, hw3⟩) | (at_builtin; refine wpList_append_own _ rfl (.tmp 32) (.tmp 34) 149 rfl w2.heap.size 153 i0 _ 2 16 Tryz.underlying149 hi hz0 hz1 hz2 rfl (by decide) v k ((trl (P.take k)).map vi) rfl (((owned_later hown.out hw3).alloc _).alloc _) ⟨w3.heap.size + 1, 0, none⟩ 1 1 [vi t, vi 1] rfl rfl (two_news rfl (by simp [go_sem, vi]) (by simp [go_sem, vi])) (two_ones _ _) (by unfold maxLen; omega) (by omega) (by have := hw3.size; simp; omega) ?_; intro v' w4 hown4 hgrow4 _))
      have hfr := owned_from hown.out
      have s3 := hw3.size
      have b3 : Below w2.heap.size w2 w3 := by repeat (first | (with_reducible exact Below.refl _ _) | (with_reducible refine Below.setCell ?_ ?_ _) | (with_reducible refine Below.drew ?_) | (with_reducible refine Below.alloc ?_ ?_ _) | (with_reducible refine Below.trans ?_ (Below.mono hw3 ?_)) | (with_reducible refine Below.trans ?_ (Below.mono hb ?_)) | (with_reducible exact hw3.size) | (with_reducible exact hb.size) | omega | (simp <;> omega) | (simp <;> (have s := hw3.size; omega)) | (simp <;> (have s := hb.size; omega)) | (have s0 := hw3.size; (try simp at s0); have s1 := hb.size; (try simp at s1); (try simp); omega))
      have b4 := ((b3.alloc (by omega) _).alloc (by simp; omega) _).grown hgrow4 (by simp; omega) (fun j hj => by have := hfr j hj; omega)
      have ho : w4.ownsRow w2.heap.size 153 2 v' (k + 1) ((trl (P.take (k + 1))).map vi) := by rw [Q1.out]; exact hown4
      clear hown4 hgrow4 hown hw3
      go_wp2
      exact ⟨⟨k + 1, _, by omega, by go_num, rfl, Lib.hid ho, b4⟩, by simp [intOf]; omega⟩
    · obtain rfl : k = m := by omega
      have e : P.take k = P := List.take_of_length_le (by rw [HL.out]; exact Nat.le_refl _)
      have ho := hown.out
      rw [e] at ho
      obtain ⟨gv, cv, rfl, hgv, hli⟩ := owned_liesN ho m0 (by rw [trl_len, HL.out])
      have HLI := Lib.hid hli
      clear hown ho hli
      go_wp2
      go_ret2
      exact ⟨⟨gv, cv, rfl, HLI.out, by simp at hs2; omega⟩, by repeat (first | (with_reducible exact Below.refl _ _) | (with_reducible refine Below.setCell ?_ ?_ _) | (with_reducible refine Below.drew ?_) | (with_reducible refine Below.alloc ?_ ?_ _) | (with_reducible refine Below.trans ?_ (Below.mono hb ?_)) | (with_reducible refine Below.trans ?_ (Below.mono b0 ?_)) | (with_reducible exact hb.size) | (with_reducible exact b0.size) | omega | (simp <;> omega) | (simp <;> (have s := hb.size; omega)) | (simp <;> (have s := b0.size; omega)) | (have s0 := hb.size; (try simp at s0); have s1 := b0.size; (try simp at s1); (try simp); omega))⟩
/-- the sum that the counts give -/
def cnt (h : List Int) (s : Int) (k : Nat) : Prop := ∃ h0 h1 h2 h3 h4 : Int, h = [h0, h1, h2, h3, h4] ∧ (0 ≤ h0 ∧ h0 ≤ k) ∧ (0 ≤ h1 ∧ h1 ≤ k) ∧ (0 ≤ h2 ∧ h2 ≤ k) ∧ (0 ≤ h3 ∧ h3 ≤ k) ∧ (0 ≤ h4 ∧ h4 ≤ k) ∧ 4 * h0 + 3 * h1 + 2 * h2 + h3 = s
theorem five_zero {w : World} {o : Obj} (h : o = .cells #[.int .i64 0, .int .i64 0, .int .i64 0, .int .i64 0, .int .i64 0] 116) : IBox (w.alloc o) w.heap.size [0, 0, 0, 0, 0] := by
  subst h
  refine ⟨fun i x hx => ?_, fun j => by simp [go_sem], by simp⟩
  match i, hx with
  | 0, hx => simp at hx; subst hx; simp [go_sem]
  | 1, hx => simp at hx; subst hx; simp [go_sem]
  | 2, hx => simp at hx; subst hx; simp [go_sem]
  | 3, hx => simp at hx; subst hx; simp [go_sem]
  | 4, hx => simp at hx; subst hx; simp [go_sem]
  | n + 5, hx => simp at hx
set_option maxHeartbeats 6400000 in
theorem histogram3_ok (a b c : Int) (bl off cap N : Nat) (L : List Q) (ns : List Int) (w : World) (hl : Lies w bl off L) (hr : numsR a b c L ns 0) (hN : (N : Int) = a * b * c) : Calls Tryz.prog 77 #[.agg #[.int .i64 a, .int .i64 b, .int .i64 c, .slice (some ⟨bl, off, none⟩) L.length cap]] w fun e w' => (∃ h0 h1 h2 h3 h4 : Int, e = .returned (.tuple #[.agg #[.int .i64 h0, .int .i64 h1, .int .i64 h2, .int .i64 h3, .int .i64 h4], .int .i64 0]) ∧ cnt [h0, h1, h2, h3, h4] (pot (pqs a b c L (3 * N))) (3 * N)) ∧ Below w.heap.size w w' := by
  obtain ⟨hfr, hF, hS, hq⟩ := small_parts hr
  have hF' := hF.n
  have hlen := fld_len hfr
  have c1 := fun (W : World) (h : Lies W bl off L) => traces3_ok a b c bl off cap N L ns W h hr hN
  have c2 : ∀ W : World, Lies W bl off L → Calls Tryz.prog 75 #[.agg #[.int .i64 a, .int .i64 b, .int .i64 c, .slice (some ⟨bl, off, none⟩) L.length cap]] W fun e w' => ∃ (a2 : Option Addr) (k : Nat), e = .returned (.tuple #[.slice a2 ns.length k, .bool true]) ∧ Below W.heap.size W w' := fun W h => (letters_ok a b c (some ⟨bl, off, none⟩) cap L ns true W (.inr ⟨bl, off, rfl, h⟩) hfr hq).mono fun e w' ⟨hh, hb⟩ => by
    rcases hh with ⟨-, a2, k, he, -⟩ | ⟨hf, -⟩
    · exact ⟨a2, k, he, hb⟩
    · cases hf
  have hPS := pqs_S hF hS (k := 3 * N) (by omega)
  have hPL := pqs_len a b c L (3 * N)
  have n48 : 3 * N ≤ 48 := by omega
  have H := Lib.hid hl
  clear hl hr hfr hF hS hF' hN hlen hq
  generalize pqs a b c L (3 * N) = P at *
  generalize 3 * N = m at *
  have HP := Lib.hid hPS
  have HL := Lib.hid hPL
  have H0 := Lib.hid (show pot (P.take 0) = 0 by rw [List.take_zero]; rfl)
  clear hPS hPL
  go_enter Tryz.func77, Tryz.ntmps77
  have r0 := five_zero (w := w.alloc (.cells #[.int .i64 a, .int .i64 b, .int .i64 c, .slice (some ⟨bl, off, none⟩) L.length cap] 25)) rfl
  rw [show (w.alloc (.cells #[.int .i64 a, .int .i64 b, .int .i64 c, .slice (some ⟨bl, off, none⟩) L.length cap] 25)).heap.size = w.heap.size + 1 by simp] at r0
  have R0 := Lib.hid r0
  clear r0
  go_wp2_with (first | ((with_reducible refine (c1 _ (H.out.later (by repeat (first | (with_reducible exact Below.refl _ _) | (with_reducible refine Below.setCell ?_ ?_ _) | (with_reducible refine Below.drew ?_) | (with_reducible refine Below.alloc ?_ ?_ _) | omega | (simp <;> omega))))).mono ?_); clear c1; rintro e w1 ⟨⟨g, kg, rfl, hg, hgm⟩, hw1⟩; have hc1 := Tail.cells hw1; have zw10 := Nat.lt_of_lt_of_le (n := w.heap.size) (by simp <;> omega) hw1.size; have s1 := hw1.size; have HG := Lib.hid hg; clear hg) | ((with_reducible refine (c2 _ (H.out.later (by repeat (first | (with_reducible exact Below.refl _ _) | (with_reducible refine Below.setCell ?_ ?_ _) | (with_reducible refine Below.drew ?_) | (with_reducible refine Below.alloc ?_ ?_ _) | (with_reducible refine Below.trans ?_ (Below.mono hw1 ?_)) | (with_reducible exact hw1.size) | omega | (simp <;> omega) | (simp <;> (have s := hw1.size; omega)) | (have s0 := hw1.size; (try simp at s0); (try simp); omega))))).mono ?_); clear c2; rintro e w2 ⟨a2, k2, rfl, hw2⟩; have s2 := hw2.size))
  have b0 : Below w.heap.size w w2 := by repeat (first | (with_reducible exact Below.refl _ _) | (with_reducible refine Below.setCell ?_ ?_ _) | (with_reducible refine Below.drew ?_) | (with_reducible refine Below.alloc ?_ ?_ _) | (with_reducible refine Below.trans ?_ (Below.mono hw2 ?_)) | (with_reducible refine Below.trans ?_ (Below.mono hw1 ?_)) | (with_reducible exact hw2.size) | (with_reducible exact hw1.size) | omega | (simp <;> omega) | (simp <;> (have s := hw2.size; omega)) | (simp <;> (have s := hw1.size; omega)) | (have s0 := hw2.size; (try simp at s0); have s1 := hw1.size; (try simp at s1); (try simp); omega))
  have G2 := Lib.hid ((HG.out.later hw2).later ((Below.refl _ _).alloc (Nat.le_refl _) (.cells #[.int .i64 0, .int .i64 0, .int .i64 0, .int .i64 0, .int .i64 0] 116)))
  have R2 := Lib.hid (((R0.out.later hw1).later hw2).later ((Below.refl _ _).alloc (Nat.le_refl _) (.cells #[.int .i64 0, .int .i64 0, .int .i64 0, .int .i64 0, .int .i64 0] 116)))
  have B2 := Lib.hid (five_zero (w := w2) rfl)
  have glt := World.block_lt_of_cell? w1
  simp at s1 hgm
  have hgl : m = 0 ∨ g < w1.heap.size := by
    by_cases h : m = 0
    · exact .inl h
    · have hp : 0 < P.length := by rw [HL.out]; omega
      exact .inr (World.block_lt_of_cell? w1 _ (HG.out (0 * 2) _ (trl_get P 0 _ (List.getElem?_eq_getElem hp))))
  have b2 : Below w.heap.size w (w2.alloc (.cells #[.int .i64 0, .int .i64 0, .int .i64 0, .int .i64 0, .int .i64 0] 116)) := by repeat (first | (with_reducible exact Below.refl _ _) | (with_reducible refine Below.setCell ?_ ?_ _) | (with_reducible refine Below.drew ?_) | (with_reducible refine Below.alloc ?_ ?_ _) | (with_reducible refine Below.trans ?_ (Below.mono b0 ?_)) | (with_reducible exact b0.size) | omega | (simp <;> omega) | (simp <;> (have s := b0.size; omega)) | (have s0 := b0.size; (try simp at s0); (try simp); omega))
  clear hw1 hw2 hc1 zw10 R0 HG glt b0
  have hBs : w.heap.size + 2 ≤ w2.heap.size := by omega
  generalize w2.alloc (.cells #[.int .i64 0, .int .i64 0, .int .i64 0, .int .i64 0, .int .i64 0] 116) = W0 at *
  generalize w2.heap.size = B at *
  go_loopw [9] (fun q wr => ∃ (k : Nat) (h : List Int), k ≤ m ∧ q = .int .i64 k ∧ Hid (cnt h (pot (P.take k)) k) ∧ Hid (IBox wr B h) ∧ Hid (IBox wr (w.heap.size + 1) [0, 0, 0, 0, 0]) ∧ Hid (LiesI wr g 0 (trl P)) ∧ Below w.heap.size w wr) (fun q _ => m - (intOf q).toNat)
  case atStart => exact ⟨0, [0, 0, 0, 0, 0], by omega, rfl, Lib.hid ⟨0, 0, 0, 0, 0, rfl, by omega, by omega, by omega, by omega, by omega, by rw [H0.out]; rfl⟩, B2, R2, G2, b2⟩
  case round =>
    obtain ⟨k, h, hk, rfl, hc, hbx, hrx, hgx, hb⟩ := hrel
    clear b2 B2 R2 G2
    obtain ⟨h0, h1, h2, h3, h4, rfl, ⟨a0, b0⟩, ⟨a1, b1⟩, ⟨a2', b2⟩, ⟨a3, b3⟩, ⟨a4, b4⟩, hs⟩ := hc.out
    have hlB := hbx.out.lt
    have x0 := hbx.out.at (i := 0) rfl
    have x1 := hbx.out.at (i := 1) rfl
    have x2 := hbx.out.at (i := 2) rfl
    have x3 := hbx.out.at (i := 3) rfl
    have x4 := hbx.out.at (i := 4) rfl
    have fz := hbx.out.free
    by_cases hlt : k < m
    · have i1 : (k : Int) < (m : Int) := by omega
      have i2 : k < P.length := by have := HL.out; omega
      have l0 := hgx.out (k * 2) _ (trl_get P k _ (List.getElem?_eq_getElem i2))
      simp only [Nat.zero_add] at l0
      have q1 := pot_take i2
      have hgB : g ≠ B := by omega
      obtain ⟨-, t1, t2⟩ := (HP.out _ (List.getElem_mem i2)).tr
      generalize trI P[k] = t at *
      have Q1 := Lib.hid q1
      have HS := Lib.hid hs
      clear q1 i2 hs
      have ht : t = -2 ∨ t = -1 ∨ t = 0 ∨ t = 1 ∨ t = 2 := by omega
      rcases ht with rfl | rfl | rfl | rfl | rfl
      · go_wp2
        exact ⟨⟨k + 1, [h0 + 1, h1, h2, h3, h4], by omega, by go_num, Lib.hid ⟨h0 + 1, h1, h2, h3, h4, rfl, by omega, by omega, by omega, by omega, by omega, by rw [Q1.out]; have := HS.out; omega⟩, Lib.hid (hbx.out.put 0 (by simp) (h0 + 1)), Lib.hid (hrx.out.other (by omega)), Lib.hid (hgx.out.grown (grown_setCell _ _ _) (by simp; omega)), by repeat (first | (with_reducible exact Below.refl _ _) | (with_reducible refine Below.setCell ?_ ?_ _) | (with_reducible refine Below.drew ?_) | (with_reducible refine Below.alloc ?_ ?_ _) | (with_reducible refine Below.trans ?_ (Below.mono hb ?_)) | (with_reducible exact hb.size) | omega | (simp <;> omega) | (simp <;> (have s := hb.size; omega)) | (have s0 := hb.size; (try simp at s0); (try simp); omega))⟩, by simp [intOf]; omega⟩
      · go_wp2
        exact ⟨⟨k + 1, [h0, h1 + 1, h2, h3, h4], by omega, by go_num, Lib.hid ⟨h0, h1 + 1, h2, h3, h4, rfl, by omega, by omega, by omega, by omega, by omega, by rw [Q1.out]; have := HS.out; omega⟩, Lib.hid (hbx.out.put 1 (by simp) (h1 + 1)), Lib.hid (hrx.out.other (by omega)), Lib.hid (hgx.out.grown (grown_setCell _ _ _) (by simp; omega)), by repeat (first | (with_reducible exact Below.refl _ _) | (with_reducible refine Below.setCell ?_ ?_ _) | (with_reducible refine Below.drew ?_) | (with_reducible refine Below.alloc ?_ ?_ _) | (with_reducible refine Below.trans ?_ (Below.mono hb ?_)) | (with_reducible exact hb.size) | omega | (simp <;> omega) | (simp <;> (have s := hb.size; omega)) | (have s0 := hb.size; (try simp at s0); (try simp); omega))⟩, by simp [intOf]; omega⟩
      · go_wp2
        exact ⟨⟨k + 1, [h0, h1, h2 + 1, h3, h4], by omega, by go_num, Lib.hid ⟨h0, h1, h2 + 1, h3, h4, rfl, by omega, by omega, by omega, by omega, by omega, by rw [Q1.out]; have := HS.out; omega⟩, Lib.hid (hbx.out.put 2 (by simp) (h2 + 1)), Lib.hid (hrx.out.other (by omega)), Lib.hid (hgx.out.grown (grown_setCell _ _ _) (by simp; omega)), by repeat (first | (with_reducible exact Below.refl _ _) | (with_reducible refine Below.setCell ?_ ?_ _) | (with_reducible refine Below.drew ?_) | (with_reducible refine Below.alloc ?_ ?_ _) | (with_reducible refine Below.trans ?_ (Below.mono hb ?_)) | (with_reducible exact hb.size) | omega | (simp <;> omega) | (simp <;> (have s := hb.size; omega)) | (have s0 := hb.size; (try simp at s0); (try simp); omega))⟩, by simp [intOf]; omega⟩
      · go_wp2
        exact ⟨⟨k + 1, [h0, h1, h2, h3 + 1, h4], by omega, by go_num, Lib.hid ⟨h0, h1, h2, h3 + 1, h4, rfl, by omega, by omega, by omega, by omega, by omega, by rw [Q1.out]; have := HS.out; omega⟩, Lib.hid (hbx.out.put 3 (by simp) (h3 + 1)), Lib.hid (hrx.out.other (by omega)), Lib.hid (hgx.out.grown (grown_setCell _ _ _) (by simp; omega)), by repeat (first | (with_reducible exact Below.refl _ _) | (with_reducible refine Below.setCell ?_ ?_ _) | (with_reducible refine Below.drew ?_) | (with_reducible refine Below.alloc ?_ ?_ _) | (with_reducible refine Below.trans ?_ (Below.mono hb ?_)) | (with_reducible exact hb.size) | omega | (simp <;> omega) | (simp <;> (have s := hb.size; omega)) | (have s0 := hb.size; (try simp at s0); (try simp); omega))⟩, by simp [intOf]; omega⟩
      · go_wp2
        exact ⟨⟨k + 1, [h0, h1, h2, h3, h4 + 1], by omega, by go_num, Lib.hid ⟨h0, h1, h2, h3, h4 + 1, rfl, by omega, by omega, by omega, by omega, by omega, by rw [Q1.out]; have := HS.out; omega⟩, Lib.hid (hbx.out.put 4 (by simp) (h4 + 1)), Lib.hid (hrx.out.other (by omega)), Lib.hid (hgx.out.grown (grown_setCell _ _ _) (by simp; omega)), by repeat (first | (with_reducible exact Below.refl _ _) | (with_reducible refine Below.setCell ?_ ?_ _) | (with_reducible refine Below.drew ?_) | (with_reducible refine Below.alloc ?_ ?_ _) | (with_reducible refine Below.trans ?_ (Below.mono hb ?_)) | (with_reducible exact hb.size) | omega | (simp <;> omega) | (simp <;> (have s := hb.size; omega)) | (have s0 := hb.size; (try simp at s0); (try simp); omega))⟩, by simp [intOf]; omega⟩
    · obtain rfl : k = m := by omega
      have e : P.take k = P := List.take_of_length_le (by rw [HL.out]; exact Nat.le_refl _)
      rw [e] at hs
      have y0 := hrx.out.at (i := 0) rfl
      have y1 := hrx.out.at (i := 1) rfl
      have y2 := hrx.out.at (i := 2) rfl
      have y3 := hrx.out.at (i := 3) rfl
      have y4 := hrx.out.at (i := 4) rfl
      have fy := hrx.out.free
      have hne : w.heap.size + 1 ≠ B := by omega
      go_wp2
      refine bodyPost_ret (v := .tuple #[.agg #[.int .i64 h0, .int .i64 h1, .int .i64 h2, .int .i64 h3, .int .i64 h4], .int .i64 0]) ?_ rfl ⟨⟨h0, h1, h2, h3, h4, rfl, h0, h1, h2, h3, h4, rfl, ⟨a0, b0⟩, ⟨a1, b1⟩, ⟨a2', b2⟩, ⟨a3, b3⟩, ⟨a4, b4⟩, hs⟩, ?_⟩
      · simp [results, Tryz.results77, go_sem, y0, y1, y2, y3, y4]
      · repeat (first | (with_reducible exact Below.refl _ _) | (with_reducible refine Below.setCell ?_ ?_ _) | (with_reducible refine Below.drew ?_) | (with_reducible refine Below.alloc ?_ ?_ _) | (with_reducible refine Below.trans ?_ (Below.mono hb ?_)) | (with_reducible exact hb.size) | omega | (simp <;> omega) | (simp <;> (have s := hb.size; omega)) | (have s0 := hb.size; (try simp at s0); (try simp); omega))
end Go.Proofs.YtilbhcjnkmeecaaGreat

/- Energies, as the program and the document's answers reckon them.
Conditions: the lists lie in memory as it is written at each theorem. -/
namespace Go.Proofs.YtilbhcjnkmeecaaGreat
set_option linter.unusedVariables false
set_option linter.unusedSimpArgs false
set_option maxRecDepth 1000000
open Go.RowKit
open Um Tm Cm Km

set_option maxHeartbeats 1600000 in
theorem pot6_ok (a b c : Int) (bl off cap N : Nat) (L : List Q) (ns : List Int) (w : World) (hl : Lies w bl off L) (hr : numsR a b c L ns 0) (hN : (N : Int) = a * b * c) : Calls Tryz.prog 50 #[.agg #[.int .i64 a, .int .i64 b, .int .i64 c, .slice (some ⟨bl, off, none⟩) L.length cap]] w fun e w' => e = .returned (.int .i64 (pot (pqs a b c L (3 * N)))) ∧ Below w.heap.size w w' := by
  obtain ⟨hfr, hF, hS, hq⟩ := small_parts hr
  have hF' := hF.n
  have hlen := fld_len hfr
  have n48 : 3 * N ≤ 48 := by omega
  have c1 := fun (W : World) (h : Lies W bl off L) => histogram3_ok a b c bl off cap N L ns W h hr hN
  have H := Lib.hid hl
  clear hl hr hfr hF hS hF' hN hlen hq
  generalize pot (pqs a b c L (3 * N)) = s at *
  generalize 3 * N = m at *
  go_enter Tryz.func50, Tryz.ntmps50
  go_wp2_with ((with_reducible refine (c1 _ (H.out.later (by repeat (first | (with_reducible exact Below.refl _ _) | (with_reducible refine Below.setCell ?_ ?_ _) | (with_reducible refine Below.drew ?_) | (with_reducible refine Below.alloc ?_ ?_ _) | omega | (simp <;> omega))))).mono ?_); clear c1; rintro e w1 ⟨⟨h0, h1, h2, h3, h4, rfl, hc⟩, hw1⟩; obtain ⟨g0, g1, g2, g3, g4, hg, ⟨a0, b0⟩, ⟨a1, b1⟩, ⟨a2, b2⟩, ⟨a3, b3⟩, ⟨a4, b4⟩, hs⟩ := hc; simp only [List.cons.injEq, and_true] at hg; obtain ⟨rfl, rfl, rfl, rfl, rfl⟩ := hg; have HS := Lib.hid hs; clear hs)
  go_ret
  exact ⟨congrArg (fun z => Ending.returned (Value.int .i64 z)) HS.out, by repeat (first | (with_reducible exact Below.refl _ _) | (with_reducible refine Below.setCell ?_ ?_ _) | (with_reducible refine Below.drew ?_) | (with_reducible refine Below.alloc ?_ ?_ _) | (with_reducible refine Below.trans ?_ (Below.mono hw1 ?_)) | (with_reducible exact hw1.size) | omega | (simp <;> omega) | (simp <;> (have s := hw1.size; omega)) | (have s0 := hw1.size; (try simp at s0); (try simp); omega))⟩
theorem liesI_rr {W : World} {b off : Nat} {l : List Int} (h : LiesI W b off l) (d : Nat) (os : Array Obj) : LiesI (Sort.grow (redrawn W d) os) b off l := fun i x hx => by
  have f := h i x hx
  rw [Tail.cell_re W d os _ (World.block_lt_of_cell? W _ f)]
  exact f
theorem lies_rr {W : World} {b off : Nat} {L : List Q} (h : Lies W b off L) (d : Nat) (os : Array Obj) : Lies (Sort.grow (redrawn W d) os) b off L := fun i x hx => by
  have f := h i x hx
  have g : ∀ a : Addr, ∀ v : Value, W.cell? a = some v → (Sort.grow (redrawn W d) os).cell? a = some v := fun a v hv => by rw [Tail.cell_re W d os a (World.block_lt_of_cell? W a hv)]; exact hv
  exact ⟨g _ _ f.1, g _ _ f.2.1, g _ _ f.2.2.1, g _ _ f.2.2.2.1, g _ _ f.2.2.2.2⟩
/-- the energy of a small field and its momenta -/
def enr (a b c : Int) (L : List Q) (N : Nat) (l : List Int) (beta : Int) : Int := kin l + beta * pot (pqs a b c L (3 * N))
theorem beta_rng {x p : Int} (h0 : 0 ≤ x) (h1 : x ≤ 10) (p0 : 0 ≤ p) (p1 : p ≤ 192) : 0 ≤ x * p ∧ x * p ≤ 1920 := by
  refine ⟨Int.mul_nonneg h0 p0, ?_⟩
  have := Int.mul_le_mul h1 p1 p0 (by omega)
  omega
theorem pot_pqs_rng {a b c : Int} {L : List Q} {ns : List Int} {N : Nat} (hr : numsR a b c L ns 0) (hN : (N : Int) = a * b * c) : 0 ≤ pot (pqs a b c L (3 * N)) ∧ pot (pqs a b c L (3 * N)) ≤ 192 := by
  obtain ⟨hfr, hF, hS, hq⟩ := small_parts hr
  have hF' := hF.n
  have hlen := fld_len hfr
  have := pot_rng _ (pqs_S hF hS (k := 3 * N) (by omega))
  rw [pqs_len] at this
  omega
set_option maxHeartbeats 1600000 in
theorem energy_ok (a b c : Int) (bl off cap pb po pc n N : Nat) (L : List Q) (ns l : List Int) (x : Int) (w : World) (hl : Lies w bl off L) (hp : LiesI w pb po l) (hpl : l.length = n * 3) (hr : numsR a b c L ns 0) (hv : vkR L.length n l 0 0) (hN : (N : Int) = a * b * c) (x0 : 0 ≤ x) (x1 : x ≤ 10) : Calls Tryz.prog 71 #[.agg #[.int .i64 a, .int .i64 b, .int .i64 c, .slice (some ⟨bl, off, none⟩) L.length cap], .slice (some ⟨pb, po, none⟩) n pc, .int .i64 x] w fun e w' => e = .returned (.tuple #[.int .i64 (enr a b c L N l x), .int .i64 0]) ∧ Below w.heap.size w w' := by
  have hlen := fld_len (small_parts hr).1
  have hn : n ≤ 48 := by rcases hv with ⟨h, -⟩ | ⟨-, h, h'⟩ | ⟨-, h, -⟩ <;> omega
  have c1 := fun (W : World) (h : Lies W bl off L) (h2 : LiesI W pb po l) => kinetic_ok a b c (some ⟨bl, off, none⟩) cap pb po pc n L ns l W (.inr ⟨bl, off, rfl, h⟩) h2 hpl hr hv hlen
  have c2 := fun W : World => pWithin_any x 0 10 W true (.inl ⟨x0, x1, rfl⟩)
  have c3 := fun (W : World) (h : Lies W bl off L) => potential_ok a b c bl off cap N L ns W h hr hN
  obtain ⟨k0, k1⟩ := kin_rng l
  obtain ⟨p0, p1⟩ := pot_pqs_rng hr hN
  obtain ⟨m0, m1⟩ := beta_rng x0 x1 p0 p1
  have H := Lib.hid hl
  have HP := Lib.hid hp
  unfold enr
  rw [hpl] at k1
  clear hl hp hpl hr hv hN
  generalize pot (pqs a b c L (3 * N)) = s at *
  generalize kin l = q at *
  go_enter Tryz.func71, Tryz.ntmps71
  go_wp2_with (first | ((with_reducible refine (c1 _ (H.out.later (by repeat (first | (with_reducible exact Below.refl _ _) | (with_reducible refine Below.setCell ?_ ?_ _) | (with_reducible refine Below.drew ?_) | (with_reducible refine Below.alloc ?_ ?_ _) | omega | (simp <;> omega)))) (HP.out.later (by repeat (first | (with_reducible exact Below.refl _ _) | (with_reducible refine Below.setCell ?_ ?_ _) | (with_reducible refine Below.drew ?_) | (with_reducible refine Below.alloc ?_ ?_ _) | omega | (simp <;> omega))))).mono ?_); clear c1; rintro e w1 ⟨rfl, hw1⟩; have hc1 := Tail.cells hw1; have zw10 := Nat.lt_of_lt_of_le (n := w.heap.size) (by simp <;> omega) hw1.size) | ((with_reducible refine (c2 _).mono ?_); clear c2; rintro e w2 ⟨rfl, rfl⟩) | ((with_reducible refine (c3 _ (H.out.later (by repeat (first | (with_reducible exact Below.refl _ _) | (with_reducible refine Below.setCell ?_ ?_ _) | (with_reducible refine Below.drew ?_) | (with_reducible refine Below.alloc ?_ ?_ _) | (with_reducible refine Below.trans ?_ (Below.mono hw1 ?_)) | (with_reducible exact hw1.size) | omega | (simp <;> omega) | (simp <;> (have s := hw1.size; omega)) | (have s0 := hw1.size; (try simp at s0); (try simp); omega))))).mono ?_); clear c3; rintro e w2 ⟨rfl, hw2⟩))
  go_ret2
  exact ⟨rfl, by repeat (first | (with_reducible exact Below.refl _ _) | (with_reducible refine Below.setCell ?_ ?_ _) | (with_reducible refine Below.drew ?_) | (with_reducible refine Below.alloc ?_ ?_ _) | (with_reducible refine Below.trans ?_ (Below.mono hw2 ?_)) | (with_reducible refine Below.trans ?_ (Below.mono hw1 ?_)) | (with_reducible exact hw2.size) | (with_reducible exact hw1.size) | omega | (simp <;> omega) | (simp <;> (have s := hw2.size; omega)) | (simp <;> (have s := hw1.size; omega)) | (have s0 := hw2.size; (try simp at s0); have s1 := hw1.size; (try simp at s1); (try simp); omega))⟩
set_option maxHeartbeats 800000 in
theorem energy_arg (a b c : Int) (ao : Option Addr) (cap pb po pc n : Nat) (L : List Q) (ns l : List Int) (x : Int) (w : World) (hl : LiesO w ao L) (hp : LiesI w pb po l) (hpl : l.length = n * 3) (hr : numsR a b c L ns 0) (hv : vkR L.length n l 0 0) (hx : ¬ (0 ≤ x ∧ x ≤ 10)) : Calls Tryz.prog 71 #[.agg #[.int .i64 a, .int .i64 b, .int .i64 c, .slice ao L.length cap], .slice (some ⟨pb, po, none⟩) n pc, .int .i64 x] w fun e w' => e = .returned (.tuple #[.int .i64 0, .int .i64 1]) ∧ Below w.heap.size w w' := by
  have hlen := fld_len (small_parts hr).1
  have c1 := fun (W : World) (h : LiesO W ao L) (h2 : LiesI W pb po l) => kinetic_ok a b c ao cap pb po pc n L ns l W h h2 hpl hr hv hlen
  have c2 := fun W : World => pWithin_any x 0 10 W false (.inr ⟨hx, rfl⟩)
  have H := Lib.hid hl
  have HP := Lib.hid hp
  clear hl hp hpl hr hv hx
  generalize kin l = q at *
  go_enter Tryz.func71, Tryz.ntmps71
  go_wp2_with (first | ((with_reducible refine (c1 _ (H.out.later (by repeat (first | (with_reducible exact Below.refl _ _) | (with_reducible refine Below.setCell ?_ ?_ _) | (with_reducible refine Below.drew ?_) | (with_reducible refine Below.alloc ?_ ?_ _) | omega | (simp <;> omega)))) (HP.out.later (by repeat (first | (with_reducible exact Below.refl _ _) | (with_reducible refine Below.setCell ?_ ?_ _) | (with_reducible refine Below.drew ?_) | (with_reducible refine Below.alloc ?_ ?_ _) | omega | (simp <;> omega))))).mono ?_); clear c1; rintro e w1 ⟨rfl, hw1⟩; have hc1 := Tail.cells hw1; have zw10 := Nat.lt_of_lt_of_le (n := w.heap.size) (by simp <;> omega) hw1.size) | ((with_reducible refine (c2 _).mono ?_); clear c2; rintro e w2 ⟨rfl, rfl⟩))
  go_ret2
  exact ⟨rfl, by repeat (first | (with_reducible exact Below.refl _ _) | (with_reducible refine Below.setCell ?_ ?_ _) | (with_reducible refine Below.drew ?_) | (with_reducible refine Below.alloc ?_ ?_ _) | (with_reducible refine Below.trans ?_ (Below.mono hw1 ?_)) | (with_reducible exact hw1.size) | omega | (simp <;> omega) | (simp <;> (have s := hw1.size; omega)) | (have s0 := hw1.size; (try simp at s0); (try simp); omega))⟩
end Go.Proofs.YtilbhcjnkmeecaaGreat
