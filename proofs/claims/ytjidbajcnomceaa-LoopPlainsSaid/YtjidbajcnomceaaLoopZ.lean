/- The document collects the terms of a sum by their plain paths.
Conditions: those written at each theorem. -/
import Derived.Test.YtjidbajcnomceaaLoopO
namespace Go.Proofs.Ytjidbajcnomceaa
set_option linter.unusedVariables false
set_option linter.unusedSimpArgs false
set_option maxRecDepth 1000000
open Go.RowKit
open Um Tm Lm

theorem plo_get (l : List E) (k : Nat) (h : k < l.length) : (plo (tm l))[k]'(by simp [plo, tm]; exact h) = (l[k].c, plL l[k].p) := by simp [plo, tm]
theorem plo_len (l : List E) : (plo (tm l)).length = l.length := by simp [plo, tm]
theorem coll_step {l es : List E} {k : Nat} (h : tm es = coll ((plo (tm l)).take k)) (hk : k < l.length) (es' : List E) (h2 : tm es' = ins (l[k].c, plL l[k].p) (tm es)) : tm es' = coll ((plo (tm l)).take (k + 1)) := by
  rw [h2, coll_take _ _ (by rw [plo_len]; exact hk), plo_get l k hk, h]
theorem keep_take (es : List E) (k : Nat) (h : k < es.length) : (es.take (k + 1)).filter (fun e => e.c ≠ 0) = (es.take k).filter (fun e => e.c ≠ 0) ++ (if es[k].c ≠ 0 then [es[k]] else []) := by
  rw [List.take_succ_eq_append_getElem h, List.filter_append]
  congr 1
  by_cases hc : es[k].c ≠ 0
  · rw [if_pos hc]; simp [hc]
  · rw [if_neg hc]; simp at hc; simp [hc]
theorem tm_keep (es : List E) : tm (es.filter (fun e => e.c ≠ 0)) = (tm es).filter fun t => t.1 ≠ 0 := by
  unfold tm
  rw [List.filter_map]
  rfl
/-- what has been collected so far -/
def Oc (w : World) (B : Nat) (out : Value) (es : List E) : Prop := (es = [] ∧ out = .slice none 0 0) ∨ ∃ base g cap, out = .slice (some ⟨g, 0, none⟩) es.length cap ∧ Hid (Ow w B base out es) ∧ 0 < es.length
set_option maxHeartbeats 12800000 in
theorem collect_any (ao : Option Addr) (cap : Nat) (l : List E) (w : World) (h : Trs w ao l) (hl : l.length ≤ 10000) (hs : ∀ e ∈ l, e.p.length ≤ 1000 ∧ ∀ s ∈ e.p, IsStep s) :
    Calls Try.prog 54 #[.slice ao l.length cap] w fun e w' => ∃ a c, ∃ es : List E, e = .returned (.slice a es.length c) ∧ Trs w' a es ∧ tm es = plT (plo (tm l)) ∧ Below w.heap.size w w' := by
  have H := Lib.hid h
  have HS := Lib.hid hs
  clear h hs
  have kc := @Tail.cell_re
  have kc1 : ∀ (W : World) (o : Obj) (d : Nat) (os : Array Obj) (a : Addr), a.block ≤ W.heap.size → (Sort.grow (redrawn (W.alloc o) d) os).cell? a = (W.alloc o).cell? a := fun W o d os a h => Tail.cell_re (W.alloc o) d os a (Nat.lt_of_le_of_lt h (by simp))
  go_enter Try.func54, Try.ntmps54
  go_wp2
  go_loopw [3, 4, 5, 6, 7] (fun f q _ _ _ wr => ∃ (k : Nat) (es : List E), k ≤ l.length ∧ es.length ≤ k ∧ q = .int .i64 k ∧ Oc wr w.heap.size f es ∧ Hid (tm es = coll ((plo (tm l)).take k)) ∧ Below w.heap.size w wr) (fun _ q _ _ _ _ => l.length - (intOf q).toNat)
  case atStart => exact ⟨0, [], by omega, by simp, rfl, .inl ⟨rfl, rfl⟩, Lib.hid (by simp [tm, coll]), by repeat (first | (with_reducible exact Below.refl _ _) | (with_reducible refine Below.setCell ?_ ?_ _) | (with_reducible refine Below.drew ?_) | (with_reducible refine Below.alloc ?_ ?_ _) | omega | (simp <;> omega))⟩
  case round =>
    obtain ⟨k, es, hk, hek, rfl, ho, hm, hb⟩ := hrel
    by_cases hlt : k < l.length
    · have i1 : (k : Int) < (l.length : Int) := by omega
      obtain ⟨b, off, rfl, x0, x1, hpl⟩ := (H.out.later hb).at_ hlt
      have hsx := HS.out _ (List.getElem_mem hlt)
      have hst := fun es' => coll_step (es := es) hm.out hlt es'
      generalize l[k] = x at *
      obtain ⟨c, p, pa, pk⟩ := x
      simp only at *
      have HL := Lib.hid hpl
      have HST := Lib.hid hst
      have cS := fun W h => shape_any pa pk p W h hsx.2 hsx.1
      have hplen : (plL p).length ≤ 1000 := by rw [plL_len]; have := red_len p; omega
      clear hpl hst hsx hm
      go_wp2_with (fail)
      refine (cS _ (HL.out.later (by repeat (first | (with_reducible exact Below.refl _ _) | (with_reducible refine Below.setCell ?_ ?_ _) | (with_reducible refine Below.drew ?_) | (with_reducible refine Below.alloc ?_ ?_ _) | omega | (simp <;> omega))))).mono ?_
      rintro e w1 ⟨a1, k1, rfl, hP, hw1⟩
      have HP := Lib.hid hP
      have hb1 : Below w.heap.size w w1 := hb.trans (hw1.mono hb.size)
      have x0 := cell_keep hw1 x0
      have x1 := cell_keep hw1 x1
      clear hP cS
      generalize plL p = P at *
      rcases ho with ⟨rfl, rfl⟩ | ⟨base, g, oc, rfl, HO, hpos⟩
      · have hbs := hb1.size
        obtain ⟨v2, X2, hr2, hn, b2, g3, k3, rfl, how⟩ := grow_nil w1 w.heap.size ⟨c, P, a1, k1⟩ HP.out hplen hbs
        have hr1 := hn w1 (.slice none 0 0) 0 [] 0 (World.ownsRow_nil _ _ _ _)
        have hr3 := hn X2 _ 1 _ 0 how.own
        have hm' : tm [(⟨c, P, a1, k1⟩ : E)] = coll ((plo (tm l)).take (k + 1)) := HST.out _ (by simp [tm, ins])
        have HM := Lib.hid hm'
        have HO := Lib.hid how
        have hb2 : Below w.heap.size w X2 := hb1.trans (b2.mono hb1.size)
        simp only at hr2
        clear HL hw1 hn how b2 hb HST hm' x1
        go_wp2_with (fail)
        refine wp_loop_rounds 1 ?_
        rw [rounds_succ]
        go_wp2_with (first | (at_builtin; refine Lib.wpList_append_run_sl _ rfl (.tmp 63) (.tmp 66) 29 rfl _ _ rfl rfl hr1 ?_) | (at_builtin; refine Lib.wpList_append_run_sl _ rfl (.tmp 68) (.tmp 76) 29 rfl _ _ rfl rfl hr2 ?_) | (at_builtin; refine Lib.wpList_append_run_sl _ rfl (.tmp 78) (.tmp 81) 29 rfl _ _ rfl rfl hr3 ?_))
        clear hr1 hr2 hr3
        exact ⟨⟨k + 1, [⟨c, P, a1, k1⟩], by omega, by simp, by go_num, .inr ⟨_, g3, k3, rfl, HO, by simp⟩, HM, hb2⟩, by simp [intOf]; omega⟩
      · have hbs := hb1.size
        have HO1 := Lib.hid (HO.out.later hw1)
        obtain ⟨c0, hc0⟩ : ∃ n, n = es.length := ⟨_, rfl⟩
        have hg1 := HO1.out.lt
        have hgB : w.heap.size ≤ g := Nat.le_trans HO1.out.b1 hg1.1
        clear HL hb HO hw1
        go_wp2_with (fail)
        go_loopw [6] (fun q wr => ∃ i : Nat, i ≤ es.length ∧ q = .int .i64 i ∧ Hid (∀ (j : Nat) (hj : j < es.length), j < i → cmpL es[j].p P < 0) ∧ Below w1.heap.size w1 wr) (fun q _ => es.length - (intOf q).toNat)
        case atStart => exact ⟨0, by omega, rfl, Lib.hid (fun j _ h => by omega), Below.refl _ _⟩
        case round =>
          obtain ⟨i, hi, rfl, hlo, hb2⟩ := hrel
          by_cases hit : i < es.length
          · have j1 : (i : Int) < (es.length : Int) := by omega
            obtain ⟨y0, y1, hy, hyl⟩ := (HO1.out.later hb2).at_ hit
            have cL := fun W h1 h2 => less_any (es[i]'hit).a a1 (es[i]'hit).k k1 (es[i]'hit).p P W h1 h2 (Nat.le_trans hyl (by omega)) (by omega)
            by_cases hc : cmpL es[i].p P < 0
            · rw [decide_eq_true hc] at cL
              have hlo' : Hid (∀ (j : Nat) (hj : j < es.length), j < i + 1 → cmpL es[j].p P < 0) := Lib.hid (fun j hj h => by
                by_cases he : j < i
                · exact hlo.out j hj he
                · obtain rfl : j = i := by omega
                  exact hc)
              generalize es[i] = y at *
              obtain ⟨cy, py, ay, ky⟩ := y
              simp only at *
              have HY := Lib.hid hy
              clear hy hc hlo
              go_wp2_with ((with_reducible refine (cL _ (HY.out.later (by repeat (first | (with_reducible exact Below.refl _ _) | (with_reducible refine Below.setCell ?_ ?_ _) | (with_reducible refine Below.drew ?_) | (with_reducible refine Below.alloc ?_ ?_ _) | omega | (simp <;> omega)))) (HP.out.later (by repeat (first | (with_reducible exact Below.refl _ _) | (with_reducible refine Below.setCell ?_ ?_ _) | (with_reducible refine Below.drew ?_) | (with_reducible refine Below.alloc ?_ ?_ _) | (with_reducible refine Below.trans ?_ (Below.mono hb2 ?_)) | (with_reducible exact hb2.size) | omega | (simp <;> omega) | (simp <;> (have s := hb2.size; omega)) | (have s0 := hb2.size; (try simp at s0); (try simp); omega))))).mono ?_); clear cL; rintro e w2 ⟨rfl, hw2⟩)
              exact ⟨⟨i + 1, by omega, by go_num, hlo', by repeat (first | (with_reducible exact Below.refl _ _) | (with_reducible refine Below.setCell ?_ ?_ _) | (with_reducible refine Below.drew ?_) | (with_reducible refine Below.alloc ?_ ?_ _) | (with_reducible refine Below.trans ?_ (Below.mono hw2 ?_)) | (with_reducible refine Below.trans ?_ (Below.mono hb2 ?_)) | (with_reducible exact hw2.size) | (with_reducible exact hb2.size) | omega | (simp <;> omega) | (simp <;> (have s := hw2.size; omega)) | (simp <;> (have s := hb2.size; omega)) | (have s0 := hw2.size; (try simp at s0); have s1 := hb2.size; (try simp at s1); (try simp); omega))⟩, by simp [intOf]; omega⟩
            · rw [decide_eq_false hc] at cL
              have cE := fun W h1 h2 => sameInts_any (es[i]'hit).a a1 (es[i]'hit).k k1 (es[i]'hit).p P W h1 h2 (Nat.le_trans hyl (by omega))
              have HY := Lib.hid hy
              by_cases he : (es[i]'hit).p = P
              · rw [decide_eq_true he] at cE
                have hm' := HST.out _ (ins_old (c := c) hit hlo.out he)
                obtain ⟨es', hes'⟩ : ∃ es', es' = es.set i { es[i]'hit with c := ad (es[i]'hit).c c } := ⟨_, rfl⟩
                have hput : ∀ W, Below w1.heap.size w1 W → Ow (W.setCell ⟨g, i * 2, none⟩ (.int .i64 (ad (es[i]'hit).c c))) w.heap.size base (.slice (some ⟨g, 0, none⟩) es.length oc) es' ∧ W.grownBy (W.setCell ⟨g, i * 2, none⟩ (.int .i64 (ad (es[i]'hit).c c))) (some g) := fun W h => by
                  have := (HO1.out.later h).put hit (ad (es[i]'hit).c c)
                  rw [List.length_set] at this
                  rw [hes']
                  exact this
                have hlen : es'.length = es.length := by rw [hes', List.length_set]
                rw [← hes'] at hm'
                have HM := Lib.hid hm'
                clear hes'
                clear hm' hlo hc hy he HST
                go_wp2_with (fail)
                refine (cL _ (HY.out.later (by repeat (first | (with_reducible exact Below.refl _ _) | (with_reducible refine Below.setCell ?_ ?_ _) | (with_reducible refine Below.drew ?_) | (with_reducible refine Below.alloc ?_ ?_ _) | omega | (simp <;> omega)))) (HP.out.later (by repeat (first | (with_reducible exact Below.refl _ _) | (with_reducible refine Below.setCell ?_ ?_ _) | (with_reducible refine Below.drew ?_) | (with_reducible refine Below.alloc ?_ ?_ _) | (with_reducible refine Below.trans ?_ (Below.mono hb2 ?_)) | (with_reducible exact hb2.size) | omega | (simp <;> omega) | (simp <;> (have s := hb2.size; omega)) | (have s0 := hb2.size; (try simp at s0); (try simp); omega))))).mono ?_
                rintro e w2 ⟨rfl, hw2⟩
                have hb3 : Below w1.heap.size w1 w2 := by repeat (first | (with_reducible exact Below.refl _ _) | (with_reducible refine Below.setCell ?_ ?_ _) | (with_reducible refine Below.drew ?_) | (with_reducible refine Below.alloc ?_ ?_ _) | (with_reducible refine Below.trans ?_ (Below.mono hw2 ?_)) | (with_reducible refine Below.trans ?_ (Below.mono hb2 ?_)) | (with_reducible exact hw2.size) | (with_reducible exact hb2.size) | omega | (simp <;> omega) | (simp <;> (have s := hw2.size; omega)) | (simp <;> (have s := hb2.size; omega)) | (have s0 := hw2.size; (try simp at s0); have s1 := hb2.size; (try simp at s1); (try simp); omega))
                have y0 := cell_keep hw2 y0
                have y1 := cell_keep hw2 y1
                clear cL
                go_wp2_with (fail)
                refine (cE _ (HY.out.later hw2) (HP.out.later hb3)).mono ?_
                rintro e w3 ⟨rfl, hw3⟩
                have hb4 : Below w1.heap.size w1 w3 := by repeat (first | (with_reducible exact Below.refl _ _) | (with_reducible refine Below.setCell ?_ ?_ _) | (with_reducible refine Below.drew ?_) | (with_reducible refine Below.alloc ?_ ?_ _) | (with_reducible refine Below.trans ?_ (Below.mono hw3 ?_)) | (with_reducible refine Below.trans ?_ (Below.mono hb3 ?_)) | (with_reducible exact hw3.size) | (with_reducible exact hb3.size) | omega | (simp <;> omega) | (simp <;> (have s := hw3.size; omega)) | (simp <;> (have s := hb3.size; omega)) | (have s0 := hw3.size; (try simp at s0); have s1 := hb3.size; (try simp at s1); (try simp); omega))
                have y0 := cell_keep hw3 y0
                have y1 := cell_keep hw3 y1
                have z0 := cell_keep hb4 x0
                have lg : g < w3.heap.size := World.block_lt_of_cell? w3 _ y0
                have lb : b < w3.heap.size := World.block_lt_of_cell? w3 _ z0
                have hfro := fun W (h : Below w3.heap.size w3 W) => ((HO1.out.later hb4).later h).own.frozenAt (i * 2)
                generalize es[i] = y at *
                obtain ⟨cy, py, ay, ky⟩ := y
                simp only at *
                clear cE hw2 hw3 hb2 hb3 x0 x1
                go_wp2
                refine Tail.region_tail_below 13 (by kernel_rfl) (by kernel_rfl) ?_
                simp only [List.take_succ_cons, List.take_zero]
                repeat (go_big_quiet_step (fail))
                refine wpQuiet_nil ?_
                intro W hW
                simp only [List.drop_succ_cons, List.drop_zero]
                have hbW1 : Below w1.heap.size w1 W := by repeat (first | (with_reducible exact Below.refl _ _) | (with_reducible refine Below.setCell ?_ ?_ _) | (with_reducible refine Below.drew ?_) | (with_reducible refine Below.alloc ?_ ?_ _) | (with_reducible refine Below.trans ?_ (Below.mono hW ?_)) | (with_reducible refine Below.trans ?_ (Below.mono hb4 ?_)) | (with_reducible exact hW.size) | (with_reducible exact hb4.size) | omega | (simp <;> omega) | (simp <;> (have s := hW.size; omega)) | (simp <;> (have s := hb4.size; omega)) | (have s0 := hW.size; (try simp at s0); have s1 := hb4.size; (try simp at s1); (try simp); omega))
                have hp := hput W hbW1
                have hf := hfro W hW
                obtain ⟨hp1, hp2⟩ := hp
                have y0 := cell_keep hW y0
                have HOW := Lib.hid hp1
                have hG := Lib.hid hp2
                have hbW : Below w.heap.size w W := (hb1.trans (hb4.mono hb1.size)).trans (hW.mono (by have := hb4.size; omega))
                clear hp1 hp2 hput hfro hb4 hW HP HY hbW1
                unfold Lm.ad at HOW hG
                go_wp2
                exact ⟨⟨k + 1, es', by omega, by omega, by go_num, .inr ⟨_, g, oc, by rw [hlen], HOW, by omega⟩, HM, hbW.grown hG.out hbW.size (fun j hj => by simp at hj; omega)⟩, by simp [intOf]; omega⟩
              · rw [decide_eq_false he] at cE
                have hm' := HST.out _ (ins_new (x := ⟨c, P, a1, k1⟩) hi hlo.out (fun _ => ⟨hc, he⟩))
                have HM0 := Lib.hid hm'
                clear hm' hlo hc hy he HST
                go_wp2_with (fail)
                refine (cL _ (HY.out.later (by repeat (first | (with_reducible exact Below.refl _ _) | (with_reducible refine Below.setCell ?_ ?_ _) | (with_reducible refine Below.drew ?_) | (with_reducible refine Below.alloc ?_ ?_ _) | omega | (simp <;> omega)))) (HP.out.later (by repeat (first | (with_reducible exact Below.refl _ _) | (with_reducible refine Below.setCell ?_ ?_ _) | (with_reducible refine Below.drew ?_) | (with_reducible refine Below.alloc ?_ ?_ _) | (with_reducible refine Below.trans ?_ (Below.mono hb2 ?_)) | (with_reducible exact hb2.size) | omega | (simp <;> omega) | (simp <;> (have s := hb2.size; omega)) | (have s0 := hb2.size; (try simp at s0); (try simp); omega))))).mono ?_
                rintro e w2 ⟨rfl, hw2⟩
                have hb3 : Below w1.heap.size w1 w2 := by repeat (first | (with_reducible exact Below.refl _ _) | (with_reducible refine Below.setCell ?_ ?_ _) | (with_reducible refine Below.drew ?_) | (with_reducible refine Below.alloc ?_ ?_ _) | (with_reducible refine Below.trans ?_ (Below.mono hw2 ?_)) | (with_reducible refine Below.trans ?_ (Below.mono hb2 ?_)) | (with_reducible exact hw2.size) | (with_reducible exact hb2.size) | omega | (simp <;> omega) | (simp <;> (have s := hw2.size; omega)) | (simp <;> (have s := hb2.size; omega)) | (have s0 := hw2.size; (try simp at s0); have s1 := hb2.size; (try simp at s1); (try simp); omega))
                have y0 := cell_keep hw2 y0
                have y1 := cell_keep hw2 y1
                clear cL
                go_wp2_with (fail)
                refine (cE _ (HY.out.later hw2) (HP.out.later hb3)).mono ?_
                rintro e w3 ⟨rfl, hw3⟩
                have hb4 : Below w1.heap.size w1 w3 := by repeat (first | (with_reducible exact Below.refl _ _) | (with_reducible refine Below.setCell ?_ ?_ _) | (with_reducible refine Below.drew ?_) | (with_reducible refine Below.alloc ?_ ?_ _) | (with_reducible refine Below.trans ?_ (Below.mono hw3 ?_)) | (with_reducible refine Below.trans ?_ (Below.mono hb3 ?_)) | (with_reducible exact hw3.size) | (with_reducible exact hb3.size) | omega | (simp <;> omega) | (simp <;> (have s := hw3.size; omega)) | (simp <;> (have s := hb3.size; omega)) | (have s0 := hw3.size; (try simp at s0); have s1 := hb3.size; (try simp at s1); (try simp); omega))
                have hm' := HM0.out
                clear HM0
                have HO2 := HO1.out.later hb4
                obtain ⟨hcap, -⟩ := HO2.cap
                have hs2 := hb4.size
                have i2 : (i : Int) ≤ (oc : Int) := by omega
                have i3 : ¬ oc = i := by omega
                obtain ⟨v1, X1, v2, X2, v3, X3, hr1, hr2, hr3, b1, b3, g3, k3, rfl, how⟩ := grow_three w3 w.heap.size base g oc i es ⟨c, P, a1, k1⟩ HO2 hi (HP.out.later hb4) hplen (by omega) (by omega) oc (oc - i) (some ⟨g, i * 2, none⟩) (es.length - i) rfl (.inr rfl)
                have hlen : (List.take i es ++ (⟨c, P, a1, k1⟩ : E) :: List.drop i es).length = es.length + 1 := by simp; omega
                generalize List.take i es ++ (⟨c, P, a1, k1⟩ : E) :: List.drop i es = es' at *
                have HM := Lib.hid hm'
                clear hm'
                have HOW := Lib.hid (show Ow X3 w.heap.size _ (.slice (some ⟨g3, 0, none⟩) (es.length + 1) k3) es' from by rw [← hlen]; exact how)
                have hb5 : Below w.heap.size w X3 := (hb1.trans (hb4.mono hb1.size)).trans (b3.mono (by omega))
                have z0 := cell_keep b1 (cell_keep hb4 x0)
                clear how HO2 b3 b1 cE y0 y1 HY hw2 hw3 hb2 hb3
                go_wp2_with (first | (at_builtin; refine Lib.wpList_append_run_sl _ rfl (.tmp 63) (.tmp 66) 29 rfl _ _ rfl rfl hr1 ?_) | (at_builtin; refine Lib.wpList_append_run_sl _ rfl (.tmp 68) (.tmp 76) 29 rfl _ _ rfl rfl hr2 ?_) | (at_builtin; refine Lib.wpList_append_run_sl _ rfl (.tmp 78) (.tmp 81) 29 rfl _ _ rfl rfl hr3 ?_))
                clear hr1 hr2 hr3
                go_wp2
                exact ⟨⟨k + 1, es', by omega, by omega, by go_num, .inr ⟨_, g3, k3, by rw [hlen], HOW, by omega⟩, HM, hb5⟩, by simp [intOf]; omega⟩
          · obtain rfl : es.length = i := by omega
            have hm' := HST.out _ (ins_new (x := ⟨c, P, a1, k1⟩) (Nat.le_refl _) hlo.out (fun h => absurd h (by omega)))
            have HO2 := HO1.out.later hb2
            obtain ⟨hcap, -⟩ := HO2.cap
            have hs2 := hb2.size
            have i2 : (es.length : Int) ≤ (oc : Int) := by omega
            by_cases hoc : oc = es.length
            · obtain rfl : oc = es.length := hoc
              obtain ⟨v1, X1, v2, X2, v3, X3, hr1, hr2, hr3, b1, b3, g3, k3, rfl, how⟩ := grow_three wr w.heap.size base g es.length es.length es ⟨c, P, a1, k1⟩ HO2 (Nat.le_refl _) (HP.out.later hb2) hplen (by omega) (by omega) es.length 0 (some ⟨g, 0, none⟩) 0 (by omega) (.inl (by simp))
              have hlen : (List.take es.length es ++ (⟨c, P, a1, k1⟩ : E) :: List.drop es.length es).length = es.length + 1 := by simp
              generalize List.take es.length es ++ (⟨c, P, a1, k1⟩ : E) :: List.drop es.length es = es' at *
              have HM := Lib.hid hm'
              have HOW := Lib.hid (show Ow X3 w.heap.size _ (.slice (some ⟨g3, 0, none⟩) (es.length + 1) k3) es' from by rw [← hlen]; exact how)
              have hb5 : Below w.heap.size w X3 := (hb1.trans (hb2.mono hb1.size)).trans (b3.mono (by omega))
              have z0 := cell_keep b1 (cell_keep hb2 x0)
              clear hm' how HO2 hlo HST b3 b1
              go_wp2_with (first | (at_builtin; refine Lib.wpList_append_run_sl _ rfl (.tmp 63) (.tmp 66) 29 rfl _ _ rfl rfl hr1 ?_) | (at_builtin; refine Lib.wpList_append_run_sl _ rfl (.tmp 68) (.tmp 76) 29 rfl _ _ rfl rfl hr2 ?_) | (at_builtin; refine Lib.wpList_append_run_sl _ rfl (.tmp 78) (.tmp 81) 29 rfl _ _ rfl rfl hr3 ?_))
              clear hr1 hr2 hr3
              go_wp2
              exact ⟨⟨k + 1, es', by omega, by omega, by go_num, .inr ⟨_, g3, k3, by rw [hlen], HOW, by omega⟩, HM, hb5⟩, by simp [intOf]; omega⟩
            · skip
              obtain ⟨v1, X1, v2, X2, v3, X3, hr1, hr2, hr3, b1, b3, g3, k3, rfl, how⟩ := grow_three wr w.heap.size base g oc es.length es ⟨c, P, a1, k1⟩ HO2 (Nat.le_refl _) (HP.out.later hb2) hplen (by omega) (by omega) oc (oc - es.length) (some ⟨g, es.length * 2, none⟩) 0 (by omega) (.inl (by simp))
              have hlen : (List.take es.length es ++ (⟨c, P, a1, k1⟩ : E) :: List.drop es.length es).length = es.length + 1 := by simp
              generalize List.take es.length es ++ (⟨c, P, a1, k1⟩ : E) :: List.drop es.length es = es' at *
              have HM := Lib.hid hm'
              have HOW := Lib.hid (show Ow X3 w.heap.size _ (.slice (some ⟨g3, 0, none⟩) (es.length + 1) k3) es' from by rw [← hlen]; exact how)
              have hb5 : Below w.heap.size w X3 := (hb1.trans (hb2.mono hb1.size)).trans (b3.mono (by omega))
              have z0 := cell_keep b1 (cell_keep hb2 x0)
              clear hm' how HO2 hlo HST b3 b1
              go_wp2_with (first | (at_builtin; refine Lib.wpList_append_run_sl _ rfl (.tmp 63) (.tmp 66) 29 rfl _ _ rfl rfl hr1 ?_) | (at_builtin; refine Lib.wpList_append_run_sl _ rfl (.tmp 68) (.tmp 76) 29 rfl _ _ rfl rfl hr2 ?_) | (at_builtin; refine Lib.wpList_append_run_sl _ rfl (.tmp 78) (.tmp 81) 29 rfl _ _ rfl rfl hr3 ?_))
              clear hr1 hr2 hr3
              go_wp2
              exact ⟨⟨k + 1, es', by omega, by omega, by go_num, .inr ⟨_, g3, k3, by rw [hlen], HOW, by omega⟩, HM, hb5⟩, by simp [intOf]; omega⟩
    · obtain rfl : l.length = k := by omega
      have hM : tm es = coll (plo (tm l)) := by have := hm.out; rwa [List.take_of_length_le (by rw [plo_len]; omega)] at this
      have HM := Lib.hid hM
      clear hm hM
      rcases ho with ⟨rfl, rfl⟩ | ⟨base, g, oc, rfl, HO, hpos⟩
      · go_wp2
        refine wp_loop_rounds 1 ?_
        rw [rounds_succ]
        go_wp2
        go_ret
        refine ⟨none, 0, [], rfl, ⟨.inl rfl, fun e he => by simp at he⟩, ?_, hb⟩
        unfold plT
        rw [← HM.out]
        rfl
      · obtain ⟨wo, rfl⟩ : ∃ wo : World, wo = wr := ⟨_, rfl⟩
        go_wp2
        go_loopw [8, 9] (fun f q wr => ∃ (i : Nat) (fs : List E) (v : Value), i ≤ es.length ∧ q = .int .i64 i ∧ v = f ∧ Hid (wr.ownsRow wo.heap.size 37 2 v fs.length (fs.flatMap ec)) ∧ Hid (fs = (es.take i).filter (fun e => e.c ≠ 0)) ∧ Below wo.heap.size wo wr) (fun _ q _ => es.length - (intOf q).toNat)
        case atStart => exact ⟨0, [], _, by omega, rfl, rfl, Lib.hid (World.ownsRow_nil _ _ _ _), Lib.hid (by simp), Below.refl _ _⟩
        case round =>
          obtain ⟨i, fs, v0, hi, rfl, rfl, HF, HE, hb2⟩ := hrel
          by_cases hit : i < es.length
          · have j1 : (i : Int) < (es.length : Int) := by omega
            obtain ⟨y0, y1, -, -⟩ := (HO.out.later hb2).at_ hit
            have hkt := keep_take es i hit
            have hfl : fs.length ≤ i := by rw [HE.out]; exact Nat.le_trans (List.length_filter_le _ _) (by rw [List.length_take]; omega)
            generalize es[i] = y at *
            obtain ⟨cy, py, ay, ky⟩ := y
            simp only at *
            by_cases hz : cy = 0
            · subst hz
              have HN : Hid (fs = (es.take (i + 1)).filter (fun e => e.c ≠ 0)) := Lib.hid (by rw [hkt, HE.out]; simp)
              clear hkt HE
              go_wp2
              exact ⟨⟨i + 1, fs, _, by omega, by go_num, rfl, HF, HN, hb2⟩, by simp [intOf]; omega⟩
            · have hz' : (cy != 0) = true := by simpa using hz
              have HN : Hid (fs ++ [(⟨cy, py, ay, ky⟩ : E)] = (es.take (i + 1)).filter (fun e => e.c ≠ 0)) := Lib.hid (by rw [hkt, HE.out]; simp [hz])
              have hs2 := hb2.size
              obtain ⟨Y, hY⟩ : ∃ Y, Y = wr.alloc (.cells #[.int .i64 cy, .slice ay py.length ky] 37) := ⟨_, rfl⟩
              have bY : Below wo.heap.size wo Y := by rw [hY]; exact hb2.alloc hs2 _
              have hsing : RowsO 2 ec Y (some ⟨wr.heap.size, 0, none⟩) [(⟨cy, py, ay, ky⟩ : E)] := .inr ⟨wr.heap.size, 0, rfl, fun i y hy j v hv => by
                match i, hy with
                | 0, hy =>
                  simp only [List.getElem?_cons_zero, Option.some.injEq] at hy
                  subst hy
                  match j, hv with
                  | 0, hv => simp [ec] at hv; subst hv; rw [hY]; simp [go_sem]
                  | 1, hv => simp [ec] at hv; subst hv; rw [hY]; simp [go_sem]
                  | n + 2, hv => simp [ec] at hv
                | n + 1, hy => simp at hy⟩
              obtain ⟨v2, X2, hr2, own2, gr2⟩ := run_append_E Y 29 wo.heap.size v0 fs.length (fs.flatMap ec) (some ⟨wr.heap.size, 0, none⟩) 1 [(⟨cy, py, ay, ky⟩ : E)] (by rw [hY]; exact HF.out.alloc _) hsing bY.size (by simp; omega)
              have hb3 : Below wo.heap.size wo X2 := bY.grown gr2 bY.size (fun j hj => (HF.out.lt j hj).1)
              rw [hY] at hr2
              simp only [List.length_singleton] at hr2
              have HF2 : Hid (X2.ownsRow wo.heap.size 37 2 v2 (fs ++ [(⟨cy, py, ay, ky⟩ : E)]).length ((fs ++ [(⟨cy, py, ay, ky⟩ : E)]).flatMap ec)) := Lib.hid (by simpa using own2)
              clear hkt HE own2 gr2 bY hY hsing hz
              go_wp2_with (at_builtin; refine Lib.wpList_append_run_sl _ rfl (.tmp 95) (.tmp 100) 29 rfl _ _ rfl rfl hr2 ?_)
              clear hr2
              go_wp2
              exact ⟨⟨i + 1, _, _, by omega, by go_num, rfl, HF2, HN, hb3⟩, by simp [intOf]; omega⟩
          · obtain rfl : es.length = i := by omega
            have hfin : fs = es.filter (fun e => e.c ≠ 0) := by have := HE.out; rwa [List.take_length] at this
            have htm : tm fs = plT (plo (tm l)) := by
              rw [hfin, tm_keep, HM.out]
              rfl
            have HT := Lib.hid htm
            have HPB := Lib.hid (((HO.out.later hb2).pb.o) : EO wr es)
            have hsub : ∀ e ∈ fs, e ∈ es := fun e he => by rw [hfin] at he; exact (List.mem_filter.1 he).1
            have HSB := Lib.hid hsub
            clear hfin htm hsub
            go_wp2
            go_ret
            obtain ⟨a, c, rfl, hrow, -⟩ := owned_rowsN ec_len HF.out
            exact ⟨a, c, fs, rfl, ⟨hrow.o, fun e he => HPB.out e (HSB.out e he)⟩, HT.out, hb.trans (hb2.mono hb.size)⟩
end Go.Proofs.Ytjidbajcnomceaa
