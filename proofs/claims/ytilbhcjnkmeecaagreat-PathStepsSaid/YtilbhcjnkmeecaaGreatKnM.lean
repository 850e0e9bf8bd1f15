/- After how many steps a trajectory comes back, as the program finds it.
Conditions: those written at each theorem. -/
import Derived.Test.YtilbhcjnkmeecaaGreatKorB
namespace Go.Proofs.YtilbhcjnkmeecaaGreat
set_option linter.unusedVariables false
set_option linter.unusedSimpArgs false
set_option maxRecDepth 1000000
open Go.RowKit
open Um Tm Cm Km

theorem take_one {l : List Int} {k : Nat} (h : k < l.length) : l.take (k + 1) = l.take k ++ [l[k]] := List.take_succ_eq_append_getElem h
set_option maxHeartbeats 3200000 in
theorem equalI_some (b1 o1 c1 b2 o2 c2 n : Nat) (l1 l2 : List Int) (w : World) (r : Bool) (h1 : LiesI w b1 o1 l1) (h2 : LiesI w b2 o2 l2) (hn1 : l1.length = n) (hn2 : l2.length = n) (hlen : n ≤ 1000000) (hr : r = decide (l1 = l2)) :
    Calls Tryz.prog 53 #[.slice (some ⟨b1, o1, none⟩) n c1, .slice (some ⟨b2, o2, none⟩) n c2] w fun e w' => e = .returned (.bool r) ∧ Below w.heap.size w w' := by
  have H1 := Lib.hid h1
  have H2 := Lib.hid h2
  have HR := Lib.hid hr
  have N1 := Lib.hid hn1
  have N2 := Lib.hid hn2
  clear h1 h2 hr hn1 hn2
  have kc := @Tail.cell_re
  have kc1 : ∀ (W : World) (o : Obj) (d : Nat) (os : Array Obj) (a : Addr), a.block ≤ W.heap.size → (Sort.grow (redrawn (W.alloc o) d) os).cell? a = (W.alloc o).cell? a := fun W o d os a h => Tail.cell_re (W.alloc o) d os a (Nat.lt_of_le_of_lt h (by simp))
  go_enter Tryz.func53, Tryz.ntmps53
  go_wp2
  go_loopw [5, 13] (fun _ q wr => ∃ k : Nat, k ≤ n ∧ q = .int .i64 k ∧ Hid (l1.take k = l2.take k) ∧ Below w.heap.size w wr) (fun _ q _ => n - (intOf q).toNat)
  case atStart => exact ⟨0, by omega, rfl, Lib.hid rfl, Below.refl _ _⟩
  case round =>
    obtain ⟨k, hk, rfl, heq, hb⟩ := hrel
    by_cases hlt : k < n
    · have j1 : (k : Int) < (n : Int) := by omega
      have i1 : k < l1.length := by have := N1.out; omega
      have i2 : k < l2.length := by have := N2.out; omega
      have t1 := take_one i1
      have t2 := take_one i2
      have x0 := H1.out.later hb k _ (List.getElem?_eq_getElem i1)
      have y0 := H2.out.later hb k _ (List.getElem?_eq_getElem i2)
      have lb1 : b1 < wr.heap.size := World.block_lt_of_cell? wr _ x0
      have lb2 : b2 < wr.heap.size := World.block_lt_of_cell? wr _ y0
      generalize l1[k] = p0 at *
      generalize l2[k] = q0 at *
      have T1 := Lib.hid t1
      have T2 := Lib.hid t2
      clear t1 t2 i1 i2
      by_cases he : p0 = q0
      · subst he
        go_wp2
        refine Tail.region_below (by kernel_rfl) (by kernel_rfl) ?_
        repeat (go_big_quiet_step (fail))
        refine wpQuiet_nil ?_
        intro w1 hw1
        go_wp2
        exact ⟨⟨k + 1, by omega, by go_num, Lib.hid (by rw [T1.out, T2.out, heq.out]), by repeat (first | (with_reducible exact Below.refl _ _) | (with_reducible refine Below.setCell ?_ ?_ _) | (with_reducible refine Below.drew ?_) | (with_reducible refine Below.alloc ?_ ?_ _) | (with_reducible refine Below.trans ?_ (Below.mono hw1 ?_)) | (with_reducible refine Below.trans ?_ (Below.mono hb ?_)) | (with_reducible exact hw1.size) | (with_reducible exact hb.size) | omega | (simp <;> omega) | (simp <;> (have s := hw1.size; omega)) | (simp <;> (have s := hb.size; omega)) | (have s0 := hw1.size; (try simp at s0); have s1 := hb.size; (try simp at s1); (try simp); omega))⟩, by simp [intOf]; omega⟩
      · have hd : (p0 != q0) = true := by simpa using he
        have hd2 : (p0 == q0) = false := by simpa using he
        have hf : r = false := by
          rw [HR.out]
          refine decide_eq_false fun h => he ?_
          have h1 := T1.out
          rw [h, T2.out] at h1
          have := List.append_cancel_left h1
          simpa using this.symm
        subst hf
        clear he
        go_wp2
        refine Tail.region_below (by kernel_rfl) (by kernel_rfl) ?_
        repeat (go_big_quiet_step (fail))
        refine wpQuiet_nil ?_
        intro w1 hw1
        go_wp2
        go_ret
        exact ⟨rfl, by repeat (first | (with_reducible exact Below.refl _ _) | (with_reducible refine Below.setCell ?_ ?_ _) | (with_reducible refine Below.drew ?_) | (with_reducible refine Below.alloc ?_ ?_ _) | (with_reducible refine Below.trans ?_ (Below.mono hw1 ?_)) | (with_reducible refine Below.trans ?_ (Below.mono hb ?_)) | (with_reducible exact hw1.size) | (with_reducible exact hb.size) | omega | (simp <;> omega) | (simp <;> (have s := hw1.size; omega)) | (simp <;> (have s := hb.size; omega)) | (have s0 := hw1.size; (try simp at s0); have s1 := hb.size; (try simp at s1); (try simp); omega))⟩
    · have hf : r = true := by
        rw [HR.out]
        refine decide_eq_true ?_
        have := heq.out
        rwa [List.take_of_length_le (by have := N1.out; omega), List.take_of_length_le (by have := N2.out; omega)] at this
      subst hf
      obtain rfl : k = n := by omega
      go_wp2
      go_ret
      exact ⟨rfl, hb⟩
set_option maxHeartbeats 3200000 in
theorem equalK_some (b1 o1 c1 b2 o2 c2 n : Nat) (l1 l2 : List Int) (w : World) (r : Bool) (h1 : LiesI w b1 o1 l1) (h2 : LiesI w b2 o2 l2) (hn1 : l1.length = n * 3) (hn2 : l2.length = n * 3) (hlen : n ≤ 1000000) (hr : r = decide (l1 = l2)) :
    Calls Tryz.prog 54 #[.slice (some ⟨b1, o1, none⟩) n c1, .slice (some ⟨b2, o2, none⟩) n c2] w fun e w' => e = .returned (.bool r) ∧ Below w.heap.size w w' := by
  have H1 := Lib.hid h1
  have H2 := Lib.hid h2
  have HR := Lib.hid hr
  have N1 := Lib.hid hn1
  have N2 := Lib.hid hn2
  have qe := eqK
  clear h1 h2 hr hn1 hn2
  have kc := @Tail.cell_re
  have kc1 : ∀ (W : World) (o : Obj) (d : Nat) (os : Array Obj) (a : Addr), a.block ≤ W.heap.size → (Sort.grow (redrawn (W.alloc o) d) os).cell? a = (W.alloc o).cell? a := fun W o d os a h => Tail.cell_re (W.alloc o) d os a (Nat.lt_of_le_of_lt h (by simp))
  go_enter Tryz.func54, Tryz.ntmps54
  go_wp2
  go_loopw [5, 13] (fun _ q wr => ∃ k : Nat, k ≤ n ∧ q = .int .i64 k ∧ Hid (l1.take (k * 3) = l2.take (k * 3)) ∧ Below w.heap.size w wr) (fun _ q _ => n - (intOf q).toNat)
  case atStart => exact ⟨0, by omega, rfl, Lib.hid rfl, Below.refl _ _⟩
  case round =>
    obtain ⟨k, hk, rfl, heq, hb⟩ := hrel
    by_cases hlt : k < n
    · have j1 : (k : Int) < (n : Int) := by omega
      have i1 : k * 3 + 2 < l1.length := by have := N1.out; omega
      have i2 : k * 3 + 2 < l2.length := by have := N2.out; omega
      have t1 := take3 i1
      have t2 := take3 i2
      have x0 := H1.out.later hb (k * 3) _ (List.getElem?_eq_getElem (by omega))
      have x1 := H1.out.later hb (k * 3 + 1) _ (List.getElem?_eq_getElem (by omega))
      have x2 := H1.out.later hb (k * 3 + 2) _ (List.getElem?_eq_getElem i1)
      have y0 := H2.out.later hb (k * 3) _ (List.getElem?_eq_getElem (by omega))
      have y1 := H2.out.later hb (k * 3 + 1) _ (List.getElem?_eq_getElem (by omega))
      have y2 := H2.out.later hb (k * 3 + 2) _ (List.getElem?_eq_getElem i2)
      have lb1 : b1 < wr.heap.size := World.block_lt_of_cell? wr _ x0
      have lb2 : b2 < wr.heap.size := World.block_lt_of_cell? wr _ y0
      generalize l1[k * 3]'(by omega) = p0 at *
      generalize l1[k * 3 + 1]'(by omega) = p1 at *
      generalize l1[k * 3 + 2] = p2 at *
      generalize l2[k * 3]'(by omega) = q0 at *
      generalize l2[k * 3 + 1]'(by omega) = q1 at *
      generalize l2[k * 3 + 2] = q2 at *
      have T1 := Lib.hid t1
      have T2 := Lib.hid t2
      clear t1 t2 i1 i2
      simp only [← Nat.add_assoc] at x1 x2 y1 y2
      by_cases he : p0 = q0 ∧ p1 = q1 ∧ p2 = q2
      · have hd : decide (p0 = q0 ∧ p1 = q1 ∧ p2 = q2) = true := decide_eq_true he
        have HE := Lib.hid he
        clear he
        go_wp2
        refine Tail.region_below (by kernel_rfl) (by kernel_rfl) ?_
        repeat (go_big_quiet_step (fail))
        refine wpQuiet_nil ?_
        intro w1 hw1
        go_wp2
        exact ⟨⟨k + 1, by omega, by go_num, Lib.hid (by obtain ⟨e0, e1, e2⟩ := HE.out; rw [T1.out, T2.out, heq.out, e0, e1, e2]), by repeat (first | (with_reducible exact Below.refl _ _) | (with_reducible refine Below.setCell ?_ ?_ _) | (with_reducible refine Below.drew ?_) | (with_reducible refine Below.alloc ?_ ?_ _) | (with_reducible refine Below.trans ?_ (Below.mono hw1 ?_)) | (with_reducible refine Below.trans ?_ (Below.mono hb ?_)) | (with_reducible exact hw1.size) | (with_reducible exact hb.size) | omega | (simp <;> omega) | (simp <;> (have s := hw1.size; omega)) | (simp <;> (have s := hb.size; omega)) | (have s0 := hw1.size; (try simp at s0); have s1 := hb.size; (try simp at s1); (try simp); omega))⟩, by simp [intOf]; omega⟩
      · have hd : decide (p0 = q0 ∧ p1 = q1 ∧ p2 = q2) = false := decide_eq_false he
        have hf : r = false := by
          rw [HR.out]
          refine decide_eq_false fun h => he ?_
          have h1 := T1.out
          rw [h, T2.out] at h1
          have := List.append_cancel_left h1
          simp at this
          exact ⟨this.1.symm, this.2.1.symm, this.2.2.symm⟩
        subst hf
        clear he
        go_wp2
        refine Tail.region_below (by kernel_rfl) (by kernel_rfl) ?_
        repeat (go_big_quiet_step (fail))
        refine wpQuiet_nil ?_
        intro w1 hw1
        go_wp2
        go_ret
        exact ⟨rfl, by repeat (first | (with_reducible exact Below.refl _ _) | (with_reducible refine Below.setCell ?_ ?_ _) | (with_reducible refine Below.drew ?_) | (with_reducible refine Below.alloc ?_ ?_ _) | (with_reducible refine Below.trans ?_ (Below.mono hw1 ?_)) | (with_reducible refine Below.trans ?_ (Below.mono hb ?_)) | (with_reducible exact hw1.size) | (with_reducible exact hb.size) | omega | (simp <;> omega) | (simp <;> (have s := hw1.size; omega)) | (simp <;> (have s := hb.size; omega)) | (have s0 := hw1.size; (try simp at s0); have s1 := hb.size; (try simp at s1); (try simp); omega))⟩
    · have hf : r = true := by
        rw [HR.out]
        refine decide_eq_true ?_
        have := heq.out
        rwa [List.take_of_length_le (by have := N1.out; omega), List.take_of_length_le (by have := N2.out; omega)] at this
      subst hf
      obtain rfl : k = n := by omega
      go_wp2
      go_ret
      exact ⟨rfl, hb⟩
def RetI (m n : Nat) (l : List Int) (e : Ending) (w' : World) : Prop := ∃ g k : Nat, e = .returned (.slice (some ⟨g, 0, none⟩) n k) ∧ IBox w' g l ∧ m ≤ g
theorem owned_IBox1 {w : World} {base : Nat} {T : TypeId} {g cap n : Nat} {l : List Int} (hl : l.length = n) (h : w.ownsRow base T 1 (.slice (some ⟨g, 0, none⟩) n cap) n (l.map vi)) : IBox w g l ∧ base ≤ g := by
  subst hl
  refine ⟨owned_IBox h, ?_⟩
  rcases h.2 with ⟨h', _⟩ | ⟨g', cap', cur, h', hb, hg, _⟩
  · simp at h'
  · simp only [Value.slice.injEq, Option.some.injEq, Addr.mk.injEq, and_true, true_and] at h'
    obtain ⟨rfl, -⟩ := h'
    exact hb
set_option maxHeartbeats 1600000 in
theorem cloneI_any (bl off cap n : Nat) (l : List Int) (w : World) (hl : LiesI w bl off l) (hn : l.length = n) (hpos : 0 < n) (hlen : n ≤ 100) : Calls Tryz.prog 52 #[.slice (some ⟨bl, off, none⟩) n cap] w fun e w' => RetI w.heap.size n l e w' ∧ Below w.heap.size w w' := by
  obtain ⟨i0, hi, hz0, hz1, hz2⟩ := info_parts infoI
  have H := Lib.hid hl
  have HN := Lib.hid hn
  have q := fun W : World => Lib.run_eql_slice_nil (P := Tryz.prog) W 62 3 (some ⟨bl, off, none⟩) n cap 0 0 Tryz.underlying62
  clear hl hn
  go_enter Tryz.func52, Tryz.ntmps52
  go_wp2_with (at_builtin; refine wpList_append_own _ rfl (.tmp 5) (.tmp 6) 62 rfl w.heap.size 3 i0 _ 1 8 Tryz.underlying62 hi hz0 hz1 hz2 rfl (by decide) (.slice (some ⟨w.heap.size, 0, none⟩) 0 0) 0 [] rfl (World.ownsRow_lit w #[] 0 (Nat.le_refl _) (by unfold maxLen; omega) (by simp)) ⟨bl, off, none⟩ n cap (l.map vi) rfl (by rw [List.length_map, HN.out, Nat.mul_one]) (liesI_news (H.out.later ((Below.refl _ _).alloc (Nat.le_refl _) _))) (liesI_ones l) (by unfold maxLen; omega) (by omega) (by simp) ?_; intro v' w1 hown hgrow _)
  rw [Nat.zero_add, List.nil_append] at hown
  obtain ⟨g, k, rfl⟩ : ∃ g k, v' = .slice (some ⟨g, 0, none⟩) n k := by
    rcases hown.2 with ⟨_, h0⟩ | ⟨g, cap, cur, rfl, hg, _⟩
    · omega
    · exact ⟨g, cap, rfl⟩
  obtain ⟨LB, hgb2⟩ := owned_IBox1 HN.out hown
  have hb := ((Below.refl w.heap.size w).alloc (Nat.le_refl _) (.cells #[] 3)).grown hgrow (by simp) (fun j hj => by simp [Value.ownBlock] at hj; omega)
  have HLB := Lib.hid LB
  have HHB := Lib.hid hb
  clear hown hgrow LB hb
  go_ret
  exact ⟨⟨g, k, by simp, HLB.out, hgb2⟩, HHB.out⟩
end Go.Proofs.YtilbhcjnkmeecaaGreat

/- The period of a trajectory, as the program finds it.
Conditions: those written at each theorem. -/
namespace Go.Proofs.YtilbhcjnkmeecaaGreat
set_option linter.unusedVariables false
set_option linter.unusedSimpArgs false
set_option maxRecDepth 1000000
open Go.RowKit
open Um Tm Cm Km

theorem Kt3.box {gl gp gm g : Nat} {w w' : World} {l : List Int} (h : Kt3 gl gp gm w w') (k : IBox w g l) (h1 : g ≠ gl) (h2 : g ≠ gp) (h3 : g ≠ gm) : IBox w' g l :=
  ⟨fun i x hx => (World.cell?_of_block (a := ⟨g, 0 + i, none⟩) (h.block g k.lt h1 h2 h3)).trans (k.h i x hx), fun j => (World.frozen?_of_block (a := ⟨g, j, none⟩) (h.block g k.lt h1 h2 h3)).trans (k.free j), Nat.lt_of_lt_of_le k.lt h.size⟩
/-- the error of a period's arguments -/
def prR (r x q : Int) : Prop := (r ≠ 0 ∧ q = r) ∨ (r = 0 ∧ ¬ (1 ≤ x ∧ x ≤ 1000) ∧ q = 1)
set_option maxHeartbeats 3200000 in
theorem period_bad (a b c r0 r x q : Int) (ao po : Option Addr) (cap pc n : Nat) (L : List Q) (ns l : List Int) (w : World) (h : LiesO w ao L) (hp : LiesOI w po l) (hl : l.length = n * 3) (hr : numsR a b c L ns r0) (hv : vkR L.length n l r0 r) (hq : prR r x q) (hlen : L.length ≤ 1000000) : Calls Tryz.prog 25 #[.agg #[.int .i64 a, .int .i64 b, .int .i64 c, .slice ao L.length cap], .slice po n pc, .int .i64 x] w fun e w' => e = .returned (.tuple #[.int .i64 0, .bool false, .int .i64 q]) ∧ Below w.heap.size w w' := by
  have H := Lib.hid h
  have HP := Lib.hid hp
  rcases hq with ⟨h0, rfl⟩ | ⟨rfl, hx, rfl⟩
  · have c1 := fun (W : World) (h : LiesO W ao L) (h2 : LiesOI W po l) => start_bad a b c r0 q ao po cap pc n L ns l W h h2 hl hr hv h0 hlen
    have h0' : (q != 0) = true := by simpa using h0
    clear h hp hr hv h0 hl
    go_enter Tryz.func25, Tryz.ntmps25
    go_wp2_with ((with_reducible refine (c1 _ (H.out.later (by repeat (first | (with_reducible exact Below.refl _ _) | (with_reducible refine Below.setCell ?_ ?_ _) | (with_reducible refine Below.drew ?_) | (with_reducible refine Below.alloc ?_ ?_ _) | omega | (simp <;> omega)))) (HP.out.later (by repeat (first | (with_reducible exact Below.refl _ _) | (with_reducible refine Below.setCell ?_ ?_ _) | (with_reducible refine Below.drew ?_) | (with_reducible refine Below.alloc ?_ ?_ _) | omega | (simp <;> omega))))).mono ?_); clear c1; rintro e w1 ⟨rfl, hw1⟩)
    go_ret3
    exact ⟨rfl, by repeat (first | (with_reducible exact Below.refl _ _) | (with_reducible refine Below.setCell ?_ ?_ _) | (with_reducible refine Below.drew ?_) | (with_reducible refine Below.alloc ?_ ?_ _) | (with_reducible refine Below.trans ?_ (Below.mono hw1 ?_)) | (with_reducible exact hw1.size) | omega | (simp <;> omega) | (simp <;> (have s := hw1.size; omega)) | (have s0 := hw1.size; (try simp at s0); (try simp); omega))⟩
  · obtain rfl : r0 = 0 := by rcases hv with ⟨h1, h2⟩ | ⟨h1, -⟩ | ⟨h1, -⟩ <;> omega
    have hst := St_of hr hv hl
    have hn0 : 0 < n := by have := hst.f.n; have := hst.e; obtain ⟨-, -, p3, -⟩ := mul_rng hst.f.z.a1 hst.f.z.a4 hst.f.z.b1 hst.f.z.b4 hst.f.z.c1 hst.f.z.c4; omega
    obtain ⟨bl, off, rfl, h2⟩ := fld_some (numsR_smR hr).1 h
    obtain ⟨pb, po', rfl, hp2⟩ : ∃ pb o, po = some ⟨pb, o, none⟩ ∧ LiesI w pb o l := by
      rcases hp with rfl | ⟨pb, o, rfl, hp⟩
      · simp at hl; omega
      · exact ⟨pb, o, rfl, hp⟩
    obtain ⟨N, hN⟩ := Int.eq_ofNat_of_zero_le (show 0 ≤ a * b * c by obtain ⟨-, -, p3, -⟩ := mul_rng hst.f.z.a1 hst.f.z.a4 hst.f.z.b1 hst.f.z.b4 hst.f.z.c1 hst.f.z.c4; omega)
    have H2 := Lib.hid h2
    have HP2 := Lib.hid hp2
    have c1 := fun (W : World) (h : Lies W bl off L) (h2 : LiesI W pb po' l) => start_ok a b c bl off cap pb po' pc n N L ns l W h h2 hl hr hv hN.symm hst.e
    have c2 := fun W : World => pWithin_any x 1 1000 W false (.inr ⟨hx, rfl⟩)
    clear h hp h2 hp2 hr hv hl hst hN hx H HP
    go_enter Tryz.func25, Tryz.ntmps25
    go_wp2_with (first | ((with_reducible refine (c1 _ (H2.out.later (by repeat (first | (with_reducible exact Below.refl _ _) | (with_reducible refine Below.setCell ?_ ?_ _) | (with_reducible refine Below.drew ?_) | (with_reducible refine Below.alloc ?_ ?_ _) | omega | (simp <;> omega)))) (HP2.out.later (by repeat (first | (with_reducible exact Below.refl _ _) | (with_reducible refine Below.setCell ?_ ?_ _) | (with_reducible refine Below.drew ?_) | (with_reducible refine Below.alloc ?_ ?_ _) | omega | (simp <;> omega))))).mono ?_); clear c1; rintro e w1 ⟨⟨B, gl, gx, gp, gm, kl, kx, km, rfl, -, -⟩, hw1⟩) | ((with_reducible refine (c2 _).mono ?_); clear c2; rintro e w2 ⟨rfl, rfl⟩))
    go_ret3
    exact ⟨rfl, by repeat (first | (with_reducible exact Below.refl _ _) | (with_reducible refine Below.setCell ?_ ?_ _) | (with_reducible refine Below.drew ?_) | (with_reducible refine Below.alloc ?_ ?_ _) | (with_reducible refine Below.trans ?_ (Below.mono hw1 ?_)) | (with_reducible exact hw1.size) | omega | (simp <;> omega) | (simp <;> (have s := hw1.size; omega)) | (have s0 := hw1.size; (try simp at s0); (try simp); omega))⟩
set_option maxHeartbeats 6400000 in
theorem period_ok (a b c : Int) (bl off cap pb po pc n N x : Nat) (r : Int) (q : Bool) (L : List Q) (l : List Int) (w : World) (h : Lies w bl off L) (hp : LiesI w pb po l) (hst : St a b c n L l) (hN : (N : Int) = a * b * c) (hx1 : 1 ≤ x) (hx : x ≤ 1000) (hper : perR a b c (L, l) x r q) : Calls Tryz.prog 25 #[.agg #[.int .i64 a, .int .i64 b, .int .i64 c, .slice (some ⟨bl, off, none⟩) L.length cap], .slice (some ⟨pb, po, none⟩) n pc, .int .i64 x] w fun e w' => e = .returned (.tuple #[.int .i64 r, .bool q, .int .i64 0]) ∧ Below w.heap.size w w' := by
  have H2 := Lib.hid h
  have HP2 := Lib.hid hp
  obtain ⟨hr, hv⟩ := St_nums hst
  have HST := Lib.hid hst
  have HPE := Lib.hid hper
  have hn0 : 0 < n := by have := hst.f.n; have := hst.e; obtain ⟨-, -, p3, -⟩ := mul_rng hst.f.z.a1 hst.f.z.a4 hst.f.z.b1 hst.f.z.b4 hst.f.z.c1 hst.f.z.c4; omega
  have c1 := fun (W : World) (h : Lies W bl off L) (h2 : LiesI W pb po l) => start_ok a b c bl off cap pb po pc n N L _ l W h h2 hst.m hr hv hN hst.e
  have c2 := fun W : World => pWithin_any (x : Int) 1 1000 W true (.inl ⟨by omega, by omega, rfl⟩)
  have HNN := Lib.hid hN
  have h48 : n ≤ 48 := by have := hst.f.n; have := hst.e; have := hst.f.z.p; omega
  have cI := fun (W : World) (g : Nat) (h : LiesI W g 0 (L.map nm)) (kl : Nat) => cloneI_any g 0 kl n (L.map nm) W h (by rw [List.length_map, hst.e]) hn0 (by omega)
  clear h hp hr hv hst hN hper
  go_enter Tryz.func25, Tryz.ntmps25
  go_wp2_with (fail)
  refine (c1 _ (H2.out.later (by repeat (first | (with_reducible exact Below.refl _ _) | (with_reducible refine Below.setCell ?_ ?_ _) | (with_reducible refine Below.drew ?_) | (with_reducible refine Below.alloc ?_ ?_ _) | omega | (simp <;> omega)))) (HP2.out.later (by repeat (first | (with_reducible exact Below.refl _ _) | (with_reducible refine Below.setCell ?_ ?_ _) | (with_reducible refine Below.drew ?_) | (with_reducible refine Below.alloc ?_ ?_ _) | omega | (simp <;> omega))))).mono ?_
  clear c1
  rintro e w1 ⟨⟨B, gl, gx, gp, gm, kl, kx, km, rfl, hCO, hCM⟩, hw1⟩
  have b1 : Below w.heap.size w w1 := by repeat (first | (with_reducible exact Below.refl _ _) | (with_reducible refine Below.setCell ?_ ?_ _) | (with_reducible refine Below.drew ?_) | (with_reducible refine Below.alloc ?_ ?_ _) | (with_reducible refine Below.trans ?_ (Below.mono hw1 ?_)) | (with_reducible exact hw1.size) | omega | (simp <;> omega) | (simp <;> (have s := hw1.size; omega)) | (have s0 := hw1.size; (try simp at s0); (try simp); omega))
  have hm2 : (w.alloc (.cells #[.int .i64 a, .int .i64 b, .int .i64 c, .slice (some ⟨bl, off, none⟩) L.length cap] 25)).heap.size = w.heap.size + 1 := by simp
  rw [hm2] at hCO hCM
  have cl := hCO.cl
  have lB := hCO.lb
  have HCO := Lib.hid hCO
  have HCM := Lib.hid hCM
  have HB1 := Lib.hid b1
  clear hCO hCM hw1 b1 hm2
  go_wp2_with ((with_reducible refine (c2 _).mono ?_); clear c2; rintro e w2 ⟨rfl, rfl⟩)
  refine (cI _ gl HCO.out.li.h kl).mono ?_
  clear cI
  rintro e w3 ⟨⟨gc, kc, rfl, hbc, hgc⟩, hw3⟩
  have l1 := HCO.out.li.lt
  have l2 := HCO.out.pr.lt
  have l3 := HCM.out.mi.lt
  have m1 := HCO.out.ml
  have m2 := HCO.out.mp
  have m3 := HCM.out.mm
  have HK3 : Hid (KS a b c n N w3 (w.heap.size + 1) B gl gx gp gm kl kx km (rn a b c (L, l) 0)) := Lib.hid ⟨HCO.out.later hw3, HCM.out.later hw3, HST.out⟩
  have HBC := Lib.hid hbc
  have g1 : gc ≠ gl := by omega
  have g2 : gc ≠ gp := by omega
  have g3 : gc ≠ gm := by omega
  have b1 := HB1.out
  have b3 : Below w.heap.size w w3 := by repeat (first | (with_reducible exact Below.refl _ _) | (with_reducible refine Below.setCell ?_ ?_ _) | (with_reducible refine Below.drew ?_) | (with_reducible refine Below.alloc ?_ ?_ _) | (with_reducible refine Below.trans ?_ (Below.mono hw3 ?_)) | (with_reducible refine Below.trans ?_ (Below.mono b1 ?_)) | (with_reducible exact hw3.size) | (with_reducible exact b1.size) | omega | (simp <;> omega) | (simp <;> (have s := hw3.size; omega)) | (simp <;> (have s := b1.size; omega)) | (have s0 := hw3.size; (try simp at s0); have s1 := b1.size; (try simp at s1); (try simp); omega))
  have HB3 := Lib.hid b3
  have HN0 : Hid (∀ j, 1 ≤ j → j ≤ 0 → rn a b c (L, l) j ≠ (L, l)) := Lib.hid (fun j h1 h2 => by omega)
  clear l1 l2 l3 hbc hgc b3 b1 hw3 HCO HCM HB1 cl
  go_wp2_with (fail)
  go_loopw [12, 31] (fun _ q2 wr => ∃ k : Nat, k ≤ x ∧ q2 = .int .i64 k ∧ Hid (KS a b c n N wr (w.heap.size + 1) B gl gx gp gm kl kx km (rn a b c (L, l) k)) ∧ Hid (IBox wr gc (L.map nm)) ∧ Hid (∀ j, 1 ≤ j → j ≤ k → rn a b c (L, l) j ≠ (L, l)) ∧ Below w.heap.size w wr) (fun _ q2 _ => x - (intOf q2).toNat)
  case atStart => exact ⟨0, by omega, rfl, HK3, HBC, HN0, HB3.out⟩
  case round =>
    obtain ⟨k, hk, rfl, hK, hbx, hne, hb⟩ := hrel
    clear HK3 HBC HN0 HB3
    by_cases hlt : k < x
    · have j1 : (k : Int) < (x : Int) := by omega
      have c3 := step_any a b c n N _ _ B gl gx gp gm kl kx km _ hK.out HNN.out
      have lB4 := hK.out.co.lb
      go_wp2_with (fail)
      refine c3.mono ?_
      clear c3
      rintro e w4 ⟨rfl, hk4, hq4⟩
      have hb4 : Below (w.heap.size + 1) _ w4 := hq4.below (Nat.le_of_lt (Nat.lt_of_le_of_lt hK.out.co.mb hK.out.co.lb)) m1 m2 m3
      have hb5 : Below w.heap.size w w4 := hb.trans (hb4.mono (by omega))
      have hbx4 := Lib.hid (hq4.box hbx.out g1 g2 g3)
      obtain ⟨⟨L1, l1⟩, hs⟩ : ∃ s, rn a b c (L, l) (k + 1) = s := ⟨_, rfl⟩
      have hk5 : KS a b c n N w4 (w.heap.size + 1) B gl gx gp gm kl kx km (L1, l1) := by
        rw [← hs]; exact hk4
      have hst1 := hk5.st
      simp only at hst1
      have cl4 := hk5.co.cl
      have cm4 := hk5.cm.cm
      have lB5 := hk5.co.lb
      have cE1 := fun (rr : Bool) (hrr : rr = decide (L1.map nm = L.map nm)) => equalI_some gl 0 kl gc 0 kc n (L1.map nm) (L.map nm) w4 rr hk5.co.li.h hbx4.out.h (by rw [List.length_map]; exact hst1.e) (by rw [List.length_map]; exact HST.out.e) (by omega) hrr
      have cE2 := fun (W : World) (rr : Bool) (hrr : rr = decide (l1 = l)) (h1 : LiesI W gm 0 l1) (h2 : LiesI W pb po l) => equalK_some gm 0 km pb po pc n l1 l W rr h1 h2 hst1.m HST.out.m (by omega) hrr
      have HMI := Lib.hid hk5.cm.mi.h
      have HK5 : Hid (KS a b c n N w4 (w.heap.size + 1) B gl gx gp gm kl kx km (rn a b c (L, l) (k + 1))) := Lib.hid hk4
      have HS := Lib.hid hs
      have HST1 := Lib.hid hst1
      clear hk4 hq4 hb4 hk5 hs hst1 hK hbx hb lB4
      go_wp2_with (fail)
      by_cases hL : L1.map nm = L.map nm
      · refine (cE1 true (decide_eq_true hL).symm).mono ?_
        clear cE1
        rintro e w5 ⟨rfl, hw5⟩
        have hc5 := Tail.cells hw5
        have eL : L1 = L := nm_map_inj HST1.out.s HST.out.s hL
        by_cases hl : l1 = l
        · have hfin := perR_uniq HPE.out (.inl ⟨rfl, k + 1, by omega, by omega, rfl, by rw [HS.out, eL, hl], fun j a1 a2 => hne.out j a1 (by omega)⟩)
          obtain ⟨hf1, hf2⟩ := hfin
          have HF1 := Lib.hid hf1
          have HF2 := Lib.hid hf2
          clear hf1 hf2
          go_wp2_with (fail)
          refine (cE2 _ true (decide_eq_true hl).symm (HMI.out.later hw5) (HP2.out.later (by repeat (first | (with_reducible exact Below.refl _ _) | (with_reducible refine Below.setCell ?_ ?_ _) | (with_reducible refine Below.drew ?_) | (with_reducible refine Below.alloc ?_ ?_ _) | (with_reducible refine Below.trans ?_ (Below.mono hw5 ?_)) | (with_reducible refine Below.trans ?_ (Below.mono hb5 ?_)) | (with_reducible exact hw5.size) | (with_reducible exact hb5.size) | omega | (simp <;> omega) | (simp <;> (have s := hw5.size; omega)) | (simp <;> (have s := hb5.size; omega)) | (have s0 := hw5.size; (try simp at s0); have s1 := hb5.size; (try simp at s1); (try simp); omega))))).mono ?_
          clear cE2
          rintro e w6 ⟨rfl, hw6⟩
          clear hl eL hL
          go_wp2
          go_ret3
          refine ⟨?_, by repeat (first | (with_reducible exact Below.refl _ _) | (with_reducible refine Below.setCell ?_ ?_ _) | (with_reducible refine Below.drew ?_) | (with_reducible refine Below.alloc ?_ ?_ _) | (with_reducible refine Below.trans ?_ (Below.mono hw6 ?_)) | (with_reducible refine Below.trans ?_ (Below.mono hw5 ?_)) | (with_reducible refine Below.trans ?_ (Below.mono hb5 ?_)) | (with_reducible exact hw6.size) | (with_reducible exact hw5.size) | (with_reducible exact hb5.size) | omega | (simp <;> omega) | (simp <;> (have s := hw6.size; omega)) | (simp <;> (have s := hw5.size; omega)) | (simp <;> (have s := hb5.size; omega)) | (have s0 := hw6.size; (try simp at s0); have s1 := hw5.size; (try simp at s1); have s2 := hb5.size; (try simp at s2); (try simp); omega))⟩
          rw [HF1.out, HF2.out]
          simp
        · have hno : rn a b c (L, l) (k + 1) ≠ (L, l) := by
            rw [HS.out]; intro h; simp only [Prod.mk.injEq] at h; exact hl h.2
          have HNX : Hid (∀ j, 1 ≤ j → j ≤ k + 1 → rn a b c (L, l) j ≠ (L, l)) := Lib.hid (fun j a1 a2 => by
            by_cases hj : j = k + 1
            · rw [hj]; exact hno
            · exact hne.out j a1 (by omega))
          go_wp2_with (fail)
          refine (cE2 _ false (decide_eq_false hl).symm (HMI.out.later hw5) (HP2.out.later (by repeat (first | (with_reducible exact Below.refl _ _) | (with_reducible refine Below.setCell ?_ ?_ _) | (with_reducible refine Below.drew ?_) | (with_reducible refine Below.alloc ?_ ?_ _) | (with_reducible refine Below.trans ?_ (Below.mono hw5 ?_)) | (with_reducible refine Below.trans ?_ (Below.mono hb5 ?_)) | (with_reducible exact hw5.size) | (with_reducible exact hb5.size) | omega | (simp <;> omega) | (simp <;> (have s := hw5.size; omega)) | (simp <;> (have s := hb5.size; omega)) | (have s0 := hw5.size; (try simp at s0); have s1 := hb5.size; (try simp at s1); (try simp); omega))))).mono ?_
          clear cE2
          rintro e w6 ⟨rfl, hw6⟩
          have HK6 : Hid (KS a b c n N w6 (w.heap.size + 1) B gl gx gp gm kl kx km (rn a b c (L, l) (k + 1))) := Lib.hid ⟨(HK5.out.co.later hw5).later hw6, (HK5.out.cm.later hw5).later hw6, HK5.out.st⟩
          have HX6 := Lib.hid ((hbx4.out.later hw5).later hw6)
          have hb6 : Below w.heap.size w w6 := by repeat (first | (with_reducible exact Below.refl _ _) | (with_reducible refine Below.setCell ?_ ?_ _) | (with_reducible refine Below.drew ?_) | (with_reducible refine Below.alloc ?_ ?_ _) | (with_reducible refine Below.trans ?_ (Below.mono hw6 ?_)) | (with_reducible refine Below.trans ?_ (Below.mono hw5 ?_)) | (with_reducible refine Below.trans ?_ (Below.mono hb5 ?_)) | (with_reducible exact hw6.size) | (with_reducible exact hw5.size) | (with_reducible exact hb5.size) | omega | (simp <;> omega) | (simp <;> (have s := hw6.size; omega)) | (simp <;> (have s := hw5.size; omega)) | (simp <;> (have s := hb5.size; omega)) | (have s0 := hw6.size; (try simp at s0); have s1 := hw5.size; (try simp at s1); have s2 := hb5.size; (try simp at s2); (try simp); omega))
          clear hl eL hL hno hw6 hw5 hc5 hb5
          go_wp2
          exact ⟨⟨k + 1, by omega, by go_num, HK6, HX6, HNX, hb6⟩, by simp [intOf]; omega⟩
      · have hno : rn a b c (L, l) (k + 1) ≠ (L, l) := by
          rw [HS.out]; intro h; simp only [Prod.mk.injEq] at h; exact hL (by rw [h.1])
        have HNX : Hid (∀ j, 1 ≤ j → j ≤ k + 1 → rn a b c (L, l) j ≠ (L, l)) := Lib.hid (fun j a1 a2 => by
          by_cases hj : j = k + 1
          · rw [hj]; exact hno
          · exact hne.out j a1 (by omega))
        refine (cE1 false (decide_eq_false hL).symm).mono ?_
        clear cE1
        rintro e w5 ⟨rfl, hw5⟩
        have HK6 : Hid (KS a b c n N w5 (w.heap.size + 1) B gl gx gp gm kl kx km (rn a b c (L, l) (k + 1))) := Lib.hid ⟨HK5.out.co.later hw5, HK5.out.cm.later hw5, HK5.out.st⟩
        have HX6 := Lib.hid (hbx4.out.later hw5)
        have hb6 : Below w.heap.size w w5 := by repeat (first | (with_reducible exact Below.refl _ _) | (with_reducible refine Below.setCell ?_ ?_ _) | (with_reducible refine Below.drew ?_) | (with_reducible refine Below.alloc ?_ ?_ _) | (with_reducible refine Below.trans ?_ (Below.mono hw5 ?_)) | (with_reducible refine Below.trans ?_ (Below.mono hb5 ?_)) | (with_reducible exact hw5.size) | (with_reducible exact hb5.size) | omega | (simp <;> omega) | (simp <;> (have s := hw5.size; omega)) | (simp <;> (have s := hb5.size; omega)) | (have s0 := hw5.size; (try simp at s0); have s1 := hb5.size; (try simp at s1); (try simp); omega))
        clear hL hno hw5 hb5
        go_wp2
        exact ⟨⟨k + 1, by omega, by go_num, HK6, HX6, HNX, hb6⟩, by simp [intOf]; omega⟩
    · obtain rfl : k = x := by omega
      have hfin := perR_uniq HPE.out (.inr ⟨rfl, rfl, hne.out⟩)
      obtain ⟨rfl, rfl⟩ := hfin
      go_wp2
      go_ret3
      exact ⟨rfl, hb⟩
end Go.Proofs.YtilbhcjnkmeecaaGreat
