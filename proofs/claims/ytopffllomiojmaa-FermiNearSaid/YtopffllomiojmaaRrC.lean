/- What is left of a source: rests and residuals, as the document's answers find them.
Conditions: the lists lie in memory as it is written at each theorem. -/
import Derived.Test.YtopffllomiojmaaRouC
import Derived.Test.YtopffllomiojmaaRsC
namespace Go.Proofs.Ytopffllomiojmaa
set_option linter.unusedVariables false
set_option linter.unusedSimpArgs false
set_option maxRecDepth 1000000
open Go.RowKit
open Um Tm Fm

theorem rm_vec {m : Nat} {M N : List Sp} {r0 ma r1 r : Int} (h1 : ms2 m M N r0 ma r1) (h : r1 = 0) (h2 : (AllE sE N ∧ r = 0) ∨ (¬ AllE sE N ∧ r = 1)) : vecR m N sE r := by
  subst h
  have hl := (ms2_ok h1).2.2.2.1
  rcases h2 with ⟨h2, h3⟩ | ⟨h2, h3⟩
  · exact .inr (.inl ⟨hl, h2, h3⟩)
  · exact .inr (.inr ⟨hl, h2, h3⟩)
set_option maxHeartbeats 3200000 in
theorem sourced2_any (a b c r0 ma r : Int) (ao po qo : Option Addr) (cap pc qc sb : Nat) (L : List Q) (ns : List Int) (M N : List Sp) (w : World) (h : LiesO w ao L) (hp : LiesOI w po (fl M)) (hq : LiesOI w qo (fl N)) (hs : w.cell? ⟨sb, 0, none⟩ = some (.slice po M.length pc)) (ht : w.cell? ⟨sb, 0 + 1, none⟩ = some (.slice qo N.length qc)) (hr : numsR a b c L ns r0) (hv : rmR L.length M N r0 ma r) (hlen : L.length ≤ 1000000) (hlm : M.length ≤ 1000000) (hln : N.length ≤ 1000000) : Calls Try.prog 80 #[.agg #[.int .i64 a, .int .i64 b, .int .i64 c, .slice ao L.length cap], .int .i64 ma, .slice (some ⟨sb, 0, none⟩) 2 2] w fun e w' => e = .returned (.int .i64 r) ∧ Below w.heap.size w w' := by
  have hsl : sb < w.heap.size := World.block_lt_of_cell? _ _ hs
  have H := Lib.hid h
  have HP := Lib.hid hp
  have HQ := Lib.hid hq
  have HS := Lib.hid (fun (W : World) (hb : Below w.heap.size w W) => (hb.cell (p := ⟨sb, 0, none⟩) hsl).trans hs)
  have HT := Lib.hid (fun (W : World) (hb : Below w.heap.size w W) => (hb.cell (p := ⟨sb, 0 + 1, none⟩) hsl).trans ht)
  obtain ⟨r1, h1, hc⟩ := hv
  have c1 : ∀ (W : World), LiesO W ao L → LiesOI W po (fl M) → LiesOI W qo (fl N) → W.cell? ⟨sb, 0, none⟩ = some (.slice po M.length pc) → W.cell? ⟨sb, 0 + 1, none⟩ = some (.slice qo N.length qc) → Calls Try.prog 64 #[.agg #[.int .i64 a, .int .i64 b, .int .i64 c, .slice ao L.length cap], .int .i64 ma, .slice (some ⟨sb, 0, none⟩) 2 2] W fun e w' => e = .returned (.int .i64 r1) ∧ Below W.heap.size W w' := fun W k1 k2 k3 k4 k5 => massive2_any a b c r0 ma r1 ao po qo cap pc qc sb 0 L ns M N W k1 k2 k3 k4 k5 hr h1 hlen hlm hln
  rcases hc with ⟨h2, rfl⟩ | ⟨h2, h3⟩
  · have t1 : (r != 0) = true := by simpa using h2
    clear h hp hq hs ht hr h1 h2
    go_enter Try.func80, Try.ntmps80
    go_wp2_with ((with_reducible refine (c1 _ (H.out.later (by repeat (first | (with_reducible exact Below.refl _ _) | (with_reducible refine Below.setCell ?_ ?_ _) | (with_reducible refine Below.drew ?_) | (with_reducible refine Below.alloc ?_ ?_ _) | omega | (simp <;> omega)))) (HP.out.later (by repeat (first | (with_reducible exact Below.refl _ _) | (with_reducible refine Below.setCell ?_ ?_ _) | (with_reducible refine Below.drew ?_) | (with_reducible refine Below.alloc ?_ ?_ _) | omega | (simp <;> omega)))) (HQ.out.later (by repeat (first | (with_reducible exact Below.refl _ _) | (with_reducible refine Below.setCell ?_ ?_ _) | (with_reducible refine Below.drew ?_) | (with_reducible refine Below.alloc ?_ ?_ _) | omega | (simp <;> omega)))) (HS.out _ (by repeat (first | (with_reducible exact Below.refl _ _) | (with_reducible refine Below.setCell ?_ ?_ _) | (with_reducible refine Below.drew ?_) | (with_reducible refine Below.alloc ?_ ?_ _) | omega | (simp <;> omega)))) (HT.out _ (by repeat (first | (with_reducible exact Below.refl _ _) | (with_reducible refine Below.setCell ?_ ?_ _) | (with_reducible refine Below.drew ?_) | (with_reducible refine Below.alloc ?_ ?_ _) | omega | (simp <;> omega))))).mono ?_); clear c1; rintro e w1 ⟨rfl, hw1⟩)
    go_ret
    exact ⟨rfl, by repeat (first | (with_reducible exact Below.refl _ _) | (with_reducible refine Below.setCell ?_ ?_ _) | (with_reducible refine Below.drew ?_) | (with_reducible refine Below.alloc ?_ ?_ _) | (with_reducible refine Below.trans ?_ (Below.mono hw1 ?_)) | (with_reducible exact hw1.size) | omega | (simp <;> omega) | (simp <;> (have s := hw1.size; omega)) | (have s0 := hw1.size; (try simp at s0); (try simp); omega))⟩
  · have hvec := rm_vec h1 h2 h3
    subst h2
    have c2 := fun (W : World) (k1 : LiesOI W qo (fl N)) => vector_any a b c 1048576 r ao qo cap qc L N W k1 (by decide) (by decide) hln hlen hvec
    clear h hp hq hs ht hr h1 h3 hvec
    have kc := @Tail.cell_re
    go_enter Try.func80, Try.ntmps80
    go_wp2_with ((with_reducible refine (c1 _ (H.out.later (by repeat (first | (with_reducible exact Below.refl _ _) | (with_reducible refine Below.setCell ?_ ?_ _) | (with_reducible refine Below.drew ?_) | (with_reducible refine Below.alloc ?_ ?_ _) | omega | (simp <;> omega)))) (HP.out.later (by repeat (first | (with_reducible exact Below.refl _ _) | (with_reducible refine Below.setCell ?_ ?_ _) | (with_reducible refine Below.drew ?_) | (with_reducible refine Below.alloc ?_ ?_ _) | omega | (simp <;> omega)))) (HQ.out.later (by repeat (first | (with_reducible exact Below.refl _ _) | (with_reducible refine Below.setCell ?_ ?_ _) | (with_reducible refine Below.drew ?_) | (with_reducible refine Below.alloc ?_ ?_ _) | omega | (simp <;> omega)))) (HS.out _ (by repeat (first | (with_reducible exact Below.refl _ _) | (with_reducible refine Below.setCell ?_ ?_ _) | (with_reducible refine Below.drew ?_) | (with_reducible refine Below.alloc ?_ ?_ _) | omega | (simp <;> omega)))) (HT.out _ (by repeat (first | (with_reducible exact Below.refl _ _) | (with_reducible refine Below.setCell ?_ ?_ _) | (with_reducible refine Below.drew ?_) | (with_reducible refine Below.alloc ?_ ?_ _) | omega | (simp <;> omega))))).mono ?_); clear c1; rintro e w1 ⟨rfl, hw1⟩; have hc1 := Tail.cells hw1; have zw10 := Nat.lt_of_lt_of_le (n := w.heap.size) (by simp <;> omega) hw1.size)
    have hb1 : Below w.heap.size w w1 := by repeat (first | (with_reducible exact Below.refl _ _) | (with_reducible refine Below.setCell ?_ ?_ _) | (with_reducible refine Below.drew ?_) | (with_reducible refine Below.alloc ?_ ?_ _) | (with_reducible refine Below.trans ?_ (Below.mono hw1 ?_)) | (with_reducible exact hw1.size) | omega | (simp <;> omega) | (simp <;> (have s := hw1.size; omega)) | (have s0 := hw1.size; (try simp at s0); (try simp); omega))
    have HQ1 := HQ.out.later hb1
    have x1 := HT.out _ hb1
    have x2 : sb < w1.heap.size := Nat.lt_of_lt_of_le hsl hb1.size
    have f0 : w1.cell? ⟨w.heap.size, 0, none⟩ = some (.int .i64 a) := (hc1.1 _ _ (by simp <;> omega)).trans (by simp [go_sem])
    have f1 : w1.cell? ⟨w.heap.size, 1, none⟩ = some (.int .i64 b) := (hc1.1 _ _ (by simp <;> omega)).trans (by simp [go_sem])
    have f2 : w1.cell? ⟨w.heap.size, 2, none⟩ = some (.int .i64 c) := (hc1.1 _ _ (by simp <;> omega)).trans (by simp [go_sem])
    have f3 : w1.cell? ⟨w.heap.size, 3, none⟩ = some (.slice ao L.length cap) := (hc1.1 _ _ (by simp <;> omega)).trans (by simp [go_sem])
    clear hc1 hw1
    have HQ1' := Lib.hid HQ1
    refine Tail.region_below (by kernel_rfl) (by kernel_rfl) ?_
    repeat (go_big_quiet_step (first | (with_reducible exact Calls.regrown_of (c2 _ (liesOI_re HQ1'.out _ _)))))
    refine wpQuiet_nil ?_
    intro w9 hw9
    go_wp2
    go_ret
    exact ⟨rfl, by repeat (first | (with_reducible exact Below.refl _ _) | (with_reducible refine Below.setCell ?_ ?_ _) | (with_reducible refine Below.drew ?_) | (with_reducible refine Below.alloc ?_ ?_ _) | (with_reducible refine Below.trans ?_ (Below.mono hw9 ?_)) | (with_reducible refine Below.trans ?_ (Below.mono hb1 ?_)) | (with_reducible exact hw9.size) | (with_reducible exact hb1.size) | omega | (simp <;> omega) | (simp <;> (have s := hw9.size; omega)) | (simp <;> (have s := hb1.size; omega)) | (have s0 := hw9.size; (try simp at s0); have s1 := hb1.size; (try simp at s1); (try simp); omega))⟩
theorem remL_at (ma : Int) {n i : Nat} (A : List Arm) (M N : List Sp) (h : i < N.length) : (remL ma n A M N)[i]? = some (axS (-1) (at0 N i) (at0 (opL 1 ma n A M) i)) := tab_at _ h
set_option maxHeartbeats 6400000 in
theorem rest_any (a b c ma : Int) (bl off cap pb po pc qb qo qc n : Nat) (L : List Q) (M N : List Sp) (w : World) (hF : Fld7 a b c L n) (hma : IsM ma) (hL : Lies w bl off L) (hM : LiesI w pb po (fl M)) (hN : LiesI w qb qo (fl N)) (hn : M.length = n) (hnn : N.length = n) : Calls Try.prog 81 #[.agg #[.int .i64 a, .int .i64 b, .int .i64 c, .slice (some ⟨bl, off, none⟩) L.length cap], .int .i64 ma, .slice (some ⟨pb, po, none⟩) n pc, .slice (some ⟨qb, qo, none⟩) n qc] w fun e w' => (∃ g kk : Nat, e = .returned (.slice (some ⟨g, 0, none⟩) n kk) ∧ LiesI w' g 0 (fl (remL ma n (arms a b c L L.length) M N)) ∧ w.heap.size ≤ g) ∧ Below w.heap.size w w' := by
  obtain ⟨i0, hi, hz0, hz1, hz2⟩ := info_parts infoS
  have hps := hF.pos
  have HL := Lib.hid hL
  have HM := Lib.hid hM
  have HN := Lib.hid hN
  have HNL := Lib.hid hnn
  have hlm := fl_lt hN (by omega)
  have c1 := fun (W : World) (h1 : Lies W bl off L) (h2 : LiesI W pb po (fl M)) => operator_any a b c ma 1 bl off cap pb po pc n L M W hF hma h1 h2 hn
  have HA := Lib.hid (fun i (h : i < N.length) => remL_at ma (n := n) (arms a b c L L.length) M N h)
  have HLO := Lib.hid ((remL_len ma n (arms a b c L L.length) M N).trans hnn)
  have HHL := Lib.hid (opL_len 1 ma n (arms a b c L L.length) M)
  clear hF hL hM hN hn hnn
  generalize remL ma n (arms a b c L L.length) M N = X at *
  generalize opL 1 ma n (arms a b c L L.length) M = Hh at *
  have kc := @Tail.cell_re
  have kc1 : ∀ (W : World) (o : Obj) (d : Nat) (os : Array Obj) (a : Addr), a.block ≤ W.heap.size → (Sort.grow (redrawn (W.alloc o) d) os).cell? a = (W.alloc o).cell? a := fun W o d os a h => Tail.cell_re (W.alloc o) d os a (Nat.lt_of_le_of_lt h (by simp))
  go_enter Try.func81, Try.ntmps81
  go_wp2_with ((with_reducible refine (c1 _ (HL.out.later (by repeat (first | (with_reducible exact Below.refl _ _) | (with_reducible refine Below.setCell ?_ ?_ _) | (with_reducible refine Below.drew ?_) | (with_reducible refine Below.alloc ?_ ?_ _) | omega | (simp <;> omega)))) (HM.out.later (by repeat (first | (with_reducible exact Below.refl _ _) | (with_reducible refine Below.setCell ?_ ?_ _) | (with_reducible refine Below.drew ?_) | (with_reducible refine Below.alloc ?_ ?_ _) | omega | (simp <;> omega))))).mono ?_); clear c1; rintro e w1 ⟨⟨gh, kh, rfl, hbh, hgh⟩, hw1⟩; have HBH := Lib.hid hbh; have hlh : gh < w1.heap.size := World.block_lt_of_cell? _ _ (hbh _ _ (fl_four (List.getElem?_eq_getElem (show 0 < Hh.length by have := HHL.out; omega))).1); clear hbh)
  have HW1 := Lib.hid (show Below w.heap.size w w1 by repeat (first | (with_reducible exact Below.refl _ _) | (with_reducible refine Below.setCell ?_ ?_ _) | (with_reducible refine Below.drew ?_) | (with_reducible refine Below.alloc ?_ ?_ _) | (with_reducible refine Below.trans ?_ (Below.mono hw1 ?_)) | (with_reducible exact hw1.size) | omega | (simp <;> omega) | (simp <;> (have s := hw1.size; omega)) | (have s0 := hw1.size; (try simp at s0); (try simp); omega)))
  have hpm : qb < w1.heap.size := Nat.lt_of_lt_of_le hlm HW1.out.size
  have HN1 := Lib.hid (HN.out.later HW1.out)
  clear hw1
  go_loopw [10, 11] (fun f q wr => ∃ (i : Nat) (v : Value), i ≤ n ∧ q = .int .i64 i ∧ v = f ∧ Hid (wr.ownsRow w1.heap.size 64 4 v i ((fl (X.take i)).map vi)) ∧ Hid (Below w1.heap.size w1 wr)) (fun _ q _ => n - (intOf q).toNat)
  case atStart => exact ⟨0, _, by omega, rfl, rfl, Lib.hid (World.ownsRow_nil _ _ _ _), Lib.hid (Below.refl _ _)⟩
  case round =>
    obtain ⟨i, v, hin, rfl, rfl, hown, hb⟩ := hrel
    have hbs := hb.out.size
    by_cases hlt : i < n
    · have i1 : (i : Int) < (n : Int) := by omega
      have him : i < N.length := by have := HNL.out; omega
      have hih : i < Hh.length := by have := HHL.out; omega
      obtain ⟨x0, x1, x2, x3⟩ := four_at (HN1.out.later hb.out) (List.getElem?_eq_getElem him)
      obtain ⟨y0, y1, y2, y3⟩ := four_at (HBH.out.later hb.out) (List.getElem?_eq_getElem hih)
      have lx : qb < wr.heap.size := by omega
      have ly : gh < wr.heap.size := by omega
      have hX := HA.out i him
      rw [at0_of (List.getElem?_eq_getElem him), at0_of (List.getElem?_eq_getElem hih)] at hX
      have hsn := fl_take_snoc hX
      generalize N[i] = x at *
      generalize Hh[i] = y at *
      have ca : ∀ W : World, Calls Try.prog 88 #[.agg #[.int .i64 x.a, .int .i64 x.b, .int .i64 x.c, .int .i64 x.d], .agg #[.int .i64 y.a, .int .i64 y.b, .int .i64 y.c, .int .i64 y.d], .int .i64 (-1)] W fun e w' => e = .returned (.agg #[.int .i64 (axS (-1) x y).a, .int .i64 (axS (-1) x y).b, .int .i64 (axS (-1) x y).c, .int .i64 (axS (-1) x y).d]) ∧ Below W.heap.size W w' := fun W => refAdd7_any x y (-1) W
      have HSN := Lib.hid hsn
      clear hsn hX
      generalize axS (-1) x y = V at *
      simp only [Nat.zero_add] at y0 y1 y2 y3
      go_wp2
      apply Made.region_one 10 (.cells (s4 V).toArray 64) (fun g => .slice (some ⟨g, 0, none⟩) 1 1) (some 32) (by kernel_rfl) (by kernel_rfl) (by kernel_rfl)
      · intro B hB
        have kc := @Tail.cell_re
        have hcB := Tail.cells hB
        have zB0 := Nat.lt_of_lt_of_le lx hB.size
        have zB1 := Nat.lt_of_lt_of_le ly hB.size
        simp only [List.take_succ_cons, List.take_zero]
        repeat (go_big_quiet_step (first | (with_reducible exact Calls.regrown_of (ca _))))
        exact wpQuiet_nil rfl
      · refine ⟨_, rfl, rfl, fun W => ⟨rfl, ?_⟩⟩
        simp [execOp, go_sem, s4, vi]
      intro g w2 hg hw2 hx2
      show wpList _ _ _ (List.drop 11 _) _ _
      simp only [List.drop_succ_cons, List.drop_zero]
      have z0 := Wide.cell_at hx2 0 _ rfl
      have z1 := Wide.cell_at hx2 1 _ rfl
      have z2 := Wide.cell_at hx2 2 _ rfl
      have z3 := Wide.cell_at hx2 3 _ rfl
      have HO2 := Lib.hid (owned_later hown.out hw2)
      have B2 := hb.out.trans (hw2.mono hb.out.size)
      have hb2 := B2.size
      clear x0 x1 x2 x3 y0 y1 y2 y3 hown hb hw2
      go_wp2_with (at_builtin; refine wpList_append_own _ rfl (.tmp 22) (.tmp 32) 26 rfl w1.heap.size 64 i0 _ 4 32 Try.underlying26 hi hz0 hz1 hz2 rfl (by decide) v i ((fl (X.take i)).map vi) rfl HO2.out ⟨g, 0, none⟩ 1 1 (s4 V) rfl rfl (four_news z0 z1 z2 z3) (four_ones _) (by unfold maxLen; omega) (by omega) (by omega) ?_; intro v' w4 hown4 hgrow4 _)
      have hfr := owned_from HO2.out
      have b4 := B2.grown hgrow4 (by omega) (fun j hj => by have := hfr j hj; omega)
      rw [← HSN.out] at hown4
      have HO4 := Lib.hid hown4
      have HB4 := Lib.hid b4
      clear hown4 hgrow4 b4 B2
      go_wp2
      exact ⟨⟨i + 1, _, by omega, by go_num, rfl, HO4, HB4⟩, by simp [intOf]; omega⟩
    · obtain rfl : i = n := by omega
      have hown2 := hown.out
      rw [show X.take i = X by rw [← HLO.out, List.take_length]] at hown2
      obtain ⟨gv, cv, rfl, hgv, hli⟩ := owned_liesS hown2 (by omega) HLO.out
      have HLI := Lib.hid hli
      clear hown hown2 hli
      go_wp2
      go_ret
      have hsz := HW1.out.size
      exact ⟨⟨gv, cv, rfl, HLI.out, by omega⟩, HW1.out.trans (hb.out.mono hsz)⟩
end Go.Proofs.Ytopffllomiojmaa
