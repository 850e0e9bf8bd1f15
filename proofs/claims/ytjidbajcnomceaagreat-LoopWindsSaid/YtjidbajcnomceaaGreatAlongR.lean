/- The unit along a path, as the document's answers make it.
Conditions: those written at each theorem. -/
import Derived.Test.YtjidbajcnomceaaGreatAlongC
import Derived.Test.YtjidbajcnomceaaGreatCold
namespace Go.Proofs.YtjidbajcnomceaaGreat
set_option linter.unusedVariables false
set_option linter.unusedSimpArgs false
set_option maxRecDepth 1000000
open Go.RowKit
open Um Tm

/-- what a step reads -/
structure StepF (L : List Q) (s n t : Int) (y : Q) : Prop where
  s0 : 0 ≤ s
  s16 : s < 16
  n0 : 0 ≤ n
  n16 : n < 16
  ht : IsStep t
  fwd : 0 < t → L[(3 * s + t - 1).toNat]? = some y ∧ 0 ≤ 3 * s + t - 1 ∧ 3 * s + t - 1 < (L.length : Int)
  bwd : ¬ 0 < t → ∃ x, V x ∧ y = bar x ∧ L[(3 * n - t - 1).toNat]? = some x ∧ 0 ≤ 3 * n - t - 1 ∧ 3 * n - t - 1 < (L.length : Int)
theorem StepF.mk' {a b c s t : Int} {L : List Q} (hF : Fl a b c L) (h0 : 0 ≤ s) (h1 : s < a * b * c) (ht : IsStep t) : StepF L s (nx a b c s t) t (up a b c L s t) := by
  have hp := hF.z.p
  have hn := hF.n
  have hr := nx_rng hF.z s t
  refine ⟨h0, by omega, hr.1, by omega, ht, fun h => ?_, fun h => ?_⟩
  · obtain ⟨i0, i1⟩ := idx_pos h0 h1 h ht.2.2
    unfold up
    rw [if_pos h]
    exact ⟨lk_get i0 (by rw [hn]; exact i1), i0, by rw [hn]; exact i1⟩
  · obtain ⟨i0, i1⟩ := idx_neg (s := s) hF.z ht h
    unfold up
    rw [if_neg h]
    exact ⟨_, (hF.lk i0 i1).1, rfl, lk_get i0 (by rw [hn]; exact i1), i0, by rw [hn]; exact i1⟩

set_option maxHeartbeats 6400000 in
theorem refUnit_some (a b c s : Int) (bl off cap pb po pc : Nat) (L : List Q) (l : List Int) (w : World) (hF : Fl a b c L) (h0 : 0 ≤ s) (h1 : s < a * b * c) (hl : Lies w bl off L) (hp : LiesI w pb po l) (hs : ∀ t ∈ l, IsStep t) (h8 : l.length ≤ 8) (hpos : 0 < l.length) : Calls Tryz.prog 64 #[.agg #[.int .i64 a, .int .i64 b, .int .i64 c, .slice (some ⟨bl, off, none⟩) L.length cap], .int .i64 s, .slice (some ⟨pb, po, none⟩) l.length pc] w fun e w' => e = .returned (.agg #[.int .i64 (al a b c L s l).a, .int .i64 (al a b c L s l).b, .int .i64 (al a b c L s l).c, .int .i64 (al a b c L s l).d, .int .i64 (al a b c L s l).n]) ∧ Below w.heap.size w w' := by
  have hall : ∀ (k : Nat) (t : Int), l[k]? = some t → en a b c s (l.take (k + 1)) = nx a b c (en a b c s (l.take k)) t ∧ StepF L (en a b c s (l.take k)) (en a b c s (l.take (k + 1))) t (up a b c L (en a b c s (l.take k)) t) ∧ (∀ W : World, Calls Tryz.prog 99 #[.agg #[.int .i64 a, .int .i64 b, .int .i64 c], .int .i64 (en a b c s (l.take k)), .int .i64 t] W fun e w' => e = .returned (.int .i64 (en a b c s (l.take (k + 1)))) ∧ Below W.heap.size W w') ∧ (ups a b c L s (l.take (k + 1))).flatMap uc = (ups a b c L s (l.take k)).flatMap uc ++ uc (up a b c L (en a b c s (l.take k)) t) := fun k t ht => by
    have hk := (List.getElem?_eq_some_iff.1 ht).1
    have he := (List.getElem?_eq_some_iff.1 ht).2
    have hen := en_rng hF.z h0 h1 (l.take k)
    have hst := hs t (he ▸ List.getElem_mem hk)
    have e1 : en a b c s (l.take (k + 1)) = nx a b c (en a b c s (l.take k)) t := by rw [en_take a b c s l k hk, he]
    refine ⟨e1, ?_, fun W => ?_, ?_⟩
    · rw [e1]; exact StepF.mk' hF hen.1 hen.2 hst
    · rw [e1]; exact refGo_any a b c _ t W hF.z hen.1 hen.2 hst
    · rw [ups_take a b c L s l k hk, he, List.flatMap_append]
      simp
  have hal := hF.al s l h0 h1 hs h8
  have hVs : ∀ x ∈ ups a b c L s l, V x := fun x hx => (hF.ups s l h0 h1 hs x hx).1
  have hul := ups_len a b c L s l
  have cQ : ∀ (g cp : Nat) (W : World), Lies W g 0 (ups a b c L s l) → Calls Tryz.prog 101 #[.slice (some ⟨g, 0, none⟩) l.length cp] W fun e w' => e = .returned (.tuple #[.agg #[.int .i64 (al a b c L s l).a, .int .i64 (al a b c L s l).b, .int .i64 (al a b c L s l).c, .int .i64 (al a b c L s l).d, .int .i64 (al a b c L s l).n], .int .i64 0]) ∧ Below W.heap.size W w' := fun g cp W h => by
    have := refProduct_any g 0 cp (ups a b c L s l) _ _ W h hVs (by omega) hal.1
    rwa [hul] at this
  obtain ⟨i0, hi, hz0, hz1, hz2⟩ := info_parts infoU
  have HL := Lib.hid hl
  have HP := Lib.hid hp
  have HUL := Lib.hid hul
  obtain ⟨r, hr⟩ : ∃ r, r = al a b c L s l := ⟨_, rfl⟩
  rw [← hr] at cQ
  have HR := Lib.hid hr
  obtain ⟨UP, hUP⟩ : ∃ UP : Nat → Int → Q, UP = fun k t => up a b c L (en a b c s (l.take k)) t := ⟨_, rfl⟩
  obtain ⟨EN, hEN⟩ : ∃ EN : Nat → Int, EN = fun k => en a b c s (l.take k) := ⟨_, rfl⟩
  obtain ⟨CS, hCS⟩ : ∃ CS : Nat → List Value, CS = fun k => (ups a b c L s (l.take k)).flatMap uc := ⟨_, rfl⟩
  have HA : Hid (∀ (k : Nat) (t : Int), l[k]? = some t → StepF L (EN k) (EN (k + 1)) t (UP k t) ∧ (∀ W : World, Calls Tryz.prog 99 #[.agg #[.int .i64 a, .int .i64 b, .int .i64 c], .int .i64 (EN k), .int .i64 t] W fun e w' => e = .returned (.int .i64 (EN (k + 1))) ∧ Below W.heap.size W w') ∧ CS (k + 1) = CS k ++ uc (UP k t)) := Lib.hid (by rw [hUP, hEN, hCS]; exact fun k t h => (hall k t h).2)
  have HE0 : Hid (EN 0 = s) := Lib.hid (by rw [hEN]; rfl)
  have HC0 : Hid (CS 0 = []) := Lib.hid (by rw [hCS]; rfl)
  have HCE : Hid (CS l.length = (ups a b c L s l).flatMap uc) := Lib.hid (by rw [hCS]; simp)
  obtain ⟨M, hM⟩ : ∃ M, M = ups a b c L s l := ⟨_, rfl⟩
  rw [← hM] at cQ HUL HCE
  clear hF h0 h1 hl hp hs hal hVs hul hr hall hUP hEN hCS hM
  go_enter Tryz.func64, Tryz.ntmps64
  go_wp2
  have fB := (⟨by simp [go_sem], by simp [go_sem], by simp [go_sem], by simp [go_sem], by simp <;> omega⟩ : FBox ((w.alloc (.cells #[.int .i64 a, .int .i64 b, .int .i64 c, .slice (some ⟨bl, off, none⟩) L.length cap] 25)).alloc (.cells #[.int .i64 0, .int .i64 0, .int .i64 0, .int .i64 0, .int .i64 0] 62)) w.heap.size a b c (.slice (some ⟨bl, off, none⟩) L.length cap))
  have rB := (⟨by simp [go_sem, zero], by simp [go_sem, zero], by simp [go_sem, zero], by simp [go_sem, zero], by simp [go_sem, zero], fun j => by simp [go_sem], by simp⟩ : UBox ((w.alloc (.cells #[.int .i64 a, .int .i64 b, .int .i64 c, .slice (some ⟨bl, off, none⟩) L.length cap] 25)).alloc (.cells #[.int .i64 0, .int .i64 0, .int .i64 0, .int .i64 0, .int .i64 0] 62)) (w.heap.size + 1) zero)
  have hB : Below w.heap.size w ((w.alloc (.cells #[.int .i64 a, .int .i64 b, .int .i64 c, .slice (some ⟨bl, off, none⟩) L.length cap] 25)).alloc (.cells #[.int .i64 0, .int .i64 0, .int .i64 0, .int .i64 0, .int .i64 0] 62)) := by repeat (first | (with_reducible exact Below.refl _ _) | (with_reducible refine Below.setCell ?_ ?_ _) | (with_reducible refine Below.drew ?_) | (with_reducible refine Below.alloc ?_ ?_ _) | omega | (simp <;> omega))
  go_loopw [1, 7, 8, 9] (fun st vv q _ wr => ∃ (k : Nat) (v : Value) (sk : Int), k ≤ l.length ∧ q = .int .i64 k ∧ st = .int .i64 sk ∧ Hid (sk = EN k) ∧ v = vv ∧ Hid (wr.ownsRow (w.heap.size + 2) 62 5 v k (CS k)) ∧ FBox wr w.heap.size a b c (.slice (some ⟨bl, off, none⟩) L.length cap) ∧ UBox wr (w.heap.size + 1) zero ∧ Below w.heap.size w wr) (fun _ _ q _ _ => l.length - (intOf q).toNat)
  case atStart => exact ⟨0, _, s, by omega, rfl, rfl, Lib.hid HE0.out.symm, rfl, Lib.hid (by rw [HC0.out]; exact World.ownsRow_nil _ _ _ _), fB, rB, hB⟩
  case round =>
    obtain ⟨k, v, sk, hk, rfl, rfl, hsk, rfl, hown, fb, rb, hb⟩ := hrel
    clear fB rB hB
    have FB := Lib.hid fb
    have RB := Lib.hid rb
    have hbs := hb.size
    have hrl := rb.lt
    by_cases hlt : k < l.length
    · have i1 : (k : Int) < (l.length : Int) := by omega
      have hx : l[k]? = some l[k] := List.getElem?_eq_getElem hlt
      have p0 := HP.out.later hb k _ hx
      have lb0 : pb < wr.heap.size := World.block_lt_of_cell? wr _ p0
      obtain ⟨hst, cG, hcs⟩ := HA.out k _ hx
      rw [← hsk.out] at hst cG
      generalize l[k] = t at *
      obtain ⟨sn, hsn⟩ : ∃ sn, sn = EN (k + 1) := ⟨_, rfl⟩
      rw [← hsn] at hst cG
      have HSN := Lib.hid hsn
      have HCS := Lib.hid hcs
      generalize UP k t = y at *
      have HX := Lib.hid hx
      clear hx hcs rb hsn hsk
      have HST := Lib.hid hst
      obtain ⟨f0, f1, f2, f3, fl⟩ := fb
      go_wp2
      refine Tail.region_below (by kernel_rfl) (by kernel_rfl) ?_
      have kc := @Tail.cell_re
      repeat (go_big_quiet_step (first | (with_reducible exact Calls.regrown_of (cG _))))
      refine wpQuiet_nil ?_
      intro w1 hw1
      have hb1 : Below w.heap.size w w1 := by repeat (first | (with_reducible exact Below.refl _ _) | (with_reducible refine Below.setCell ?_ ?_ _) | (with_reducible refine Below.drew ?_) | (with_reducible refine Below.alloc ?_ ?_ _) | (with_reducible refine Below.trans ?_ (Below.mono hw1 ?_)) | (with_reducible refine Below.trans ?_ (Below.mono hb ?_)) | (with_reducible exact hw1.size) | (with_reducible exact hb.size) | omega | (simp <;> omega) | (simp <;> (have s := hw1.size; omega)) | (simp <;> (have s := hb.size; omega)) | (have s0 := hw1.size; (try simp at s0); have s1 := hb.size; (try simp at s1); (try simp); omega))
      have F1 := FB.out.later hw1
      have p1 := HP.out.later hb1 k _ HX.out
      have lb1 : pb < w1.heap.size := World.block_lt_of_cell? w1 _ p1
      have O1 := Lib.hid (owned_later hown.out hw1)
      have hb1s := hb1.size
      have hw1s := hw1.size
      clear f0 f1 f2 f3 fl p0 kc cG hown
      by_cases hp : 0 < t
      · obtain ⟨hxy, j0, j1⟩ := HST.out.fwd hp
        have hp' : ¬ t ≤ 0 := by omega
        have e1 : (3 * sk + t - 1).toNat = (3 * sk + t).toNat - 1 := by omega
        obtain ⟨l0, l1, l2, l3, l4⟩ := (HL.out.later hb1).atP hxy
        have b1 := HST.out.s0
        have b2 := HST.out.s16
        obtain ⟨b3, b4, b5⟩ := HST.out.ht
        have lbl : bl < w1.heap.size := World.block_lt_of_cell? w1 _ l0
        rw [e1] at l0 l1 l2 l3 l4
        obtain ⟨f0, f1, f2, f3, fl⟩ := F1
        clear e1 hxy
        go_wp2
        apply Made.region_one 13 (.cells (uc y).toArray 62) (fun g => .slice (some ⟨g, 0, none⟩) 1 1) (some 44) (by kernel_rfl) (by kernel_rfl) (by kernel_rfl)
        · intro B hB
          have kc := @Tail.cell_re
          have hcB := Tail.cells hB
          have zB0 := Nat.lt_of_lt_of_le fl hB.size
          have zB1 := Nat.lt_of_lt_of_le lb1 hB.size
          have zB2 := Nat.lt_of_lt_of_le lbl hB.size
          simp only [List.take_succ_cons, List.take_zero]
          repeat (go_big_quiet_step (fail))
          exact wpQuiet_nil rfl
        · refine ⟨_, rfl, rfl, fun W => ⟨rfl, ?_⟩⟩
          simp [execOp, go_sem, uc]
        · intro g W hg hW hx
          show wpList _ _ _ (List.drop 14 _) _ _
          simp only [List.drop_succ_cons, List.drop_zero]
          have x0 := Wide.cell_at hx 0 _ rfl
          have x1 := Wide.cell_at hx 1 _ rfl
          have x2 := Wide.cell_at hx 2 _ rfl
          have x3 := Wide.cell_at hx 3 _ rfl
          have x4 := Wide.cell_at hx 4 _ rfl
          have OO := Lib.hid (owned_later O1.out hW)
          have hb4 : Below w.heap.size w W := by repeat (first | (with_reducible exact Below.refl _ _) | (with_reducible refine Below.setCell ?_ ?_ _) | (with_reducible refine Below.drew ?_) | (with_reducible refine Below.alloc ?_ ?_ _) | (with_reducible refine Below.trans ?_ (Below.mono hW ?_)) | (with_reducible refine Below.trans ?_ (Below.mono hb1 ?_)) | (with_reducible exact hW.size) | (with_reducible exact hb1.size) | omega | (simp <;> omega) | (simp <;> (have s := hW.size; omega)) | (simp <;> (have s := hb1.size; omega)) | (have s0 := hW.size; (try simp at s0); have s1 := hb1.size; (try simp at s1); (try simp); omega))
          have hs4 := hb4.size
          have hs5 := hW.size
          clear f0 f1 f2 f3 fl l0 l1 l2 l3 l4 hx p1 
          go_wp2_with (at_builtin; refine wpList_append_own _ rfl (.tmp 31) (.tmp 44) 23 rfl (w.heap.size + 2) 62 i0 _ 5 40 Tryz.underlying23 hi hz0 hz1 hz2 rfl (by decide) v k (CS k) rfl OO.out ⟨g, 0, none⟩ 1 1 (uc y) rfl rfl (five_cells rfl x0 x1 x2 x3 x4) (five_one rfl) (by unfold maxLen; omega) (by omega) (by omega) ?_; intro v' w4 hown4 hgrow4 _)
          have F5 := ((FB.out.later hw1).later hW).grown hgrow4 (owned_ne OO.out (b := w.heap.size) (by omega))
          have R5 := ((RB.out.later hw1).later hW).grown hgrow4 (owned_ne OO.out (b := w.heap.size + 1) (by omega))
          have hfr := owned_from OO.out
          have hb6 := hb4.grown hgrow4 hs4 (fun j hj => by have := hfr j hj; omega)
          rw [← HCS.out] at hown4
          clear hgrow4 FB RB OO O1 HST
          exact ⟨⟨k + 1, _, sn, by omega, by go_num, rfl, HSN, rfl, Lib.hid hown4, F5, R5, hb6⟩, by simp [intOf]; omega⟩
      · obtain ⟨x, hV, hyx, hxy, j0, j1⟩ := HST.out.bwd hp
        have hp' : t ≤ 0 := by omega
        have e1 : (3 * sn - t - 1).toNat = (3 * sn - t).toNat - 1 := by omega
        obtain ⟨l0, l1, l2, l3, l4⟩ := (HL.out.later hb1).atP hxy
        have b1 := HST.out.n0
        have b2 := HST.out.n16
        have ix := V.in hV
        have cB := fun W : World => back_any x W (by have := ix.b; omega) (by have := ix.c; omega) (by have := ix.d; omega)
        rw [← hyx] at cB
        clear hV hyx ix
        obtain ⟨b3, b4, b5⟩ := HST.out.ht
        have lbl : bl < w1.heap.size := World.block_lt_of_cell? w1 _ l0
        rw [e1] at l0 l1 l2 l3 l4
        obtain ⟨f0, f1, f2, f3, fl⟩ := F1
        clear e1 hxy
        go_wp2
        apply Made.region_one 14 (.cells (uc y).toArray 62) (fun g => .slice (some ⟨g, 0, none⟩) 1 1) (some 60) (by kernel_rfl) (by kernel_rfl) (by kernel_rfl)
        · intro B hB
          have kc := @Tail.cell_re
          have hcB := Tail.cells hB
          have zB0 := Nat.lt_of_lt_of_le fl hB.size
          have zB1 := Nat.lt_of_lt_of_le lb1 hB.size
          have zB2 := Nat.lt_of_lt_of_le lbl hB.size
          simp only [List.take_succ_cons, List.take_zero]
          repeat (go_big_quiet_step (first | (with_reducible exact Calls.regrown_of (cB _))))
          exact wpQuiet_nil rfl
        · refine ⟨_, rfl, rfl, fun W => ⟨rfl, ?_⟩⟩
          simp [execOp, go_sem, uc]
        · intro g W hg hW hx
          show wpList _ _ _ (List.drop 15 _) _ _
          simp only [List.drop_succ_cons, List.drop_zero]
          have x0 := Wide.cell_at hx 0 _ rfl
          have x1 := Wide.cell_at hx 1 _ rfl
          have x2 := Wide.cell_at hx 2 _ rfl
          have x3 := Wide.cell_at hx 3 _ rfl
          have x4 := Wide.cell_at hx 4 _ rfl
          have OO := Lib.hid (owned_later O1.out hW)
          have hb4 : Below w.heap.size w W := by repeat (first | (with_reducible exact Below.refl _ _) | (with_reducible refine Below.setCell ?_ ?_ _) | (with_reducible refine Below.drew ?_) | (with_reducible refine Below.alloc ?_ ?_ _) | (with_reducible refine Below.trans ?_ (Below.mono hW ?_)) | (with_reducible refine Below.trans ?_ (Below.mono hb1 ?_)) | (with_reducible exact hW.size) | (with_reducible exact hb1.size) | omega | (simp <;> omega) | (simp <;> (have s := hW.size; omega)) | (simp <;> (have s := hb1.size; omega)) | (have s0 := hW.size; (try simp at s0); have s1 := hb1.size; (try simp at s1); (try simp); omega))
          have hs4 := hb4.size
          have hs5 := hW.size
          clear f0 f1 f2 f3 fl l0 l1 l2 l3 l4 hx p1 cB
          go_wp2_with (at_builtin; refine wpList_append_own _ rfl (.tmp 46) (.tmp 60) 23 rfl (w.heap.size + 2) 62 i0 _ 5 40 Tryz.underlying23 hi hz0 hz1 hz2 rfl (by decide) v k (CS k) rfl OO.out ⟨g, 0, none⟩ 1 1 (uc y) rfl rfl (five_cells rfl x0 x1 x2 x3 x4) (five_one rfl) (by unfold maxLen; omega) (by omega) (by omega) ?_; intro v' w4 hown4 hgrow4 _)
          have F5 := ((FB.out.later hw1).later hW).grown hgrow4 (owned_ne OO.out (b := w.heap.size) (by omega))
          have R5 := ((RB.out.later hw1).later hW).grown hgrow4 (owned_ne OO.out (b := w.heap.size + 1) (by omega))
          have hfr := owned_from OO.out
          have hb6 := hb4.grown hgrow4 hs4 (fun j hj => by have := hfr j hj; omega)
          rw [← HCS.out] at hown4
          clear hgrow4 FB RB OO O1 HST
          exact ⟨⟨k + 1, _, sn, by omega, by go_num, rfl, HSN, rfl, Lib.hid hown4, F5, R5, hb6⟩, by simp [intOf]; omega⟩
    · obtain rfl : k = l.length := by omega
      obtain ⟨gv, cv, rfl, hgv⟩ := owned5_some hown.out hpos
      have hli : Lies wr gv 0 M := owned_lies (T := 62) (base := w.heap.size + 2) (cap := cv) (by
        have := hown.out
        rw [HCE.out] at this
        rw [HUL.out]
        exact this)
      have c9 := cQ gv cv wr hli
      clear hown fb rb hli
      go_wp2_with ((with_reducible refine c9.mono ?_); rintro e w3 ⟨rfl, hw3⟩; obtain ⟨d0, d1, d2, d3, d4, df, dl⟩ := RB.out.later hw3)
      refine bodyPost_ret (v := .agg #[.int .i64 r.a, .int .i64 r.b, .int .i64 r.c, .int .i64 r.d, .int .i64 r.n]) ?_ rfl ⟨by rw [HR.out], ?_⟩
      · simp [results, Tryz.results64, go_sem, d0, d1, d2, d3, d4, dl]
      · repeat (first | (with_reducible exact Below.refl _ _) | (with_reducible refine Below.setCell ?_ ?_ _) | (with_reducible refine Below.drew ?_) | (with_reducible refine Below.alloc ?_ ?_ _) | (with_reducible refine Below.trans ?_ (Below.mono hw3 ?_)) | (with_reducible refine Below.trans ?_ (Below.mono hb ?_)) | (with_reducible exact hw3.size) | (with_reducible exact hb.size) | omega | (simp <;> omega) | (simp <;> (have s := hw3.size; omega)) | (simp <;> (have s := hb.size; omega)) | (have s0 := hw3.size; (try simp at s0); have s1 := hb.size; (try simp at s1); (try simp); omega))

set_option maxHeartbeats 1600000 in
theorem refUnit_nil (a b c s : Int) (bl off cap pc : Nat) (ao : Option Addr) (L : List Q) (w : World) : Calls Tryz.prog 64 #[.agg #[.int .i64 a, .int .i64 b, .int .i64 c, .slice (some ⟨bl, off, none⟩) L.length cap], .int .i64 s, .slice ao 0 pc] w fun e w' => e = .returned (.agg #[.int .i64 one.a, .int .i64 one.b, .int .i64 one.c, .int .i64 one.d, .int .i64 one.n]) ∧ Below w.heap.size w w' := by
  have cQ := fun W : World => refProduct_nil none 0 W
  go_enter Tryz.func64, Tryz.ntmps64
  go_wp2
  refine wp_loop_rounds 1 ?_
  rw [rounds_succ]
  go_wp2_with ((with_reducible refine (cQ _).mono ?_); rintro e w2 ⟨rfl, hw2⟩; have hc2 := Tail.cells hw2; have zw20 := Nat.lt_of_lt_of_le (n := w.heap.size) (by simp <;> omega) hw2.size; have zw21 := Nat.lt_of_lt_of_le (n := w.heap.size + 1) (by simp <;> omega) hw2.size)
  refine bodyPost_ret (v := .agg #[.int .i64 one.a, .int .i64 one.b, .int .i64 one.c, .int .i64 one.d, .int .i64 one.n]) ?_ rfl ⟨rfl, ?_⟩
  · simp [results, Tryz.results64, go_sem, hc2, zw20, zw21]
  · repeat (first | (with_reducible exact Below.refl _ _) | (with_reducible refine Below.setCell ?_ ?_ _) | (with_reducible refine Below.drew ?_) | (with_reducible refine Below.alloc ?_ ?_ _) | (with_reducible refine Below.trans ?_ (Below.mono hw2 ?_)) | (with_reducible exact hw2.size) | omega | (simp <;> omega) | (simp <;> (have s := hw2.size; omega)) | (have s0 := hw2.size; (try simp at s0); (try simp); omega))
theorem refUnit_any (a b c s : Int) (bl off cap pc : Nat) (ao : Option Addr) (L : List Q) (l : List Int) (w : World) (hF : Fl a b c L) (h0 : 0 ≤ s) (h1 : s < a * b * c) (hl : Lies w bl off L) (hp : LiesOI w ao l) (hs : ∀ t ∈ l, IsStep t) (h8 : l.length ≤ 8) : Calls Tryz.prog 64 #[.agg #[.int .i64 a, .int .i64 b, .int .i64 c, .slice (some ⟨bl, off, none⟩) L.length cap], .int .i64 s, .slice ao l.length pc] w fun e w' => e = .returned (.agg #[.int .i64 (al a b c L s l).a, .int .i64 (al a b c L s l).b, .int .i64 (al a b c L s l).c, .int .i64 (al a b c L s l).d, .int .i64 (al a b c L s l).n]) ∧ Below w.heap.size w w' := by
  rcases hp with rfl | ⟨pb, po, rfl, hp⟩
  · rw [show al a b c L s [] = one from low_one]
    exact refUnit_nil a b c s bl off cap pc ao L w
  · by_cases hpos : 0 < l.length
    · exact refUnit_some a b c s bl off cap pb po pc L l w hF h0 h1 hl hp hs h8 hpos
    · obtain rfl : l = [] := List.length_eq_zero_iff.1 (by omega)
      rw [show al a b c L s [] = one from low_one]
      exact refUnit_nil a b c s bl off cap pc _ L w

end Go.Proofs.YtjidbajcnomceaaGreat
