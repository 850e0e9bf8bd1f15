/- The field with opposite links at one end of a direction, as the program makes it.
Conditions: the lists lie in memory as it is written at each theorem. -/
import Derived.Test.YtkgihmhehkaocaaGreatRCnM
import Derived.Test.YtkgihmhehkaocaaGreatRCloC
import Derived.Test.YtkgihmhehkaocaaGreatRTopA
namespace Go.Proofs.YtkgihmhehkaocaaGreat
set_option linter.unusedVariables false
set_option linter.unusedSimpArgs false
set_option maxRecDepth 1000000
open Go.RowKit
open Um Tm

/-- the first sites are done -/
def cenT (a b c d : Int) (L : List Q) (j : Nat) : List Q := (List.range L.length).map fun (i : Nat) => if i < 3 * j then cenK a b c d L i else lk L (i : Int)
theorem cenT_len (a b c d : Int) (L : List Q) (j : Nat) : (cenT a b c d L j).length = L.length := by simp [cenT]
theorem cenT_get {a b c d : Int} {L : List Q} {j i : Nat} (hi : i < L.length) : (cenT a b c d L j)[i]? = some (if i < 3 * j then cenK a b c d L i else lk L (i : Int)) := by simp [cenT, List.getElem?_range hi]
theorem cenT_zero (a b c d : Int) (L : List Q) : cenT a b c d L 0 = L := by
  apply List.ext_getElem?
  intro i
  by_cases hi : i < L.length
  · rw [cenT_get hi, if_neg (by omega), lk_at hi]
  · rw [List.getElem?_eq_none (by rw [cenT_len]; omega), List.getElem?_eq_none (by omega)]
theorem cenT_all {a b c d : Int} {L : List Q} {N : Nat} (h : L.length ≤ 3 * N) : cenT a b c d L N = cenL a b c d L := by
  unfold cenT cenL
  apply List.map_congr_left
  intro i hi
  have := List.mem_range.1 hi
  rw [if_pos (by omega)]
theorem cen_other {a b c d : Int} {L : List Q} {i : Nat} (h : ¬ (i : Int) % 3 = d) : cenK a b c d L i = lk L (i : Int) := by
  unfold cenK cenB
  rw [decide_eq_false h]
  rfl
theorem cenT_set {a b c : Int} {L : List Q} {D j : Nat} (hD : D < 3) : (cenT a b c D L j).set (3 * j + D) (cenK a b c D L (3 * j + D)) = cenT a b c D L (j + 1) := by
  apply List.ext_getElem?
  intro i
  rw [List.getElem?_set, cenT_len]
  by_cases hi : i < L.length
  · rw [cenT_get hi, cenT_get hi]
    by_cases he : 3 * j + D = i
    · subst he
      rw [if_pos rfl, if_pos hi, if_pos (by omega)]
    · rw [if_neg he]
      by_cases h1 : i < 3 * j
      · rw [if_pos h1, if_pos (by omega)]
      · rw [if_neg h1]
        by_cases h2 : i < 3 * (j + 1)
        · rw [if_pos h2, cen_other (by omega)]
        · rw [if_neg h2]
  · rw [List.getElem?_eq_none (by rw [cenT_len]; omega), List.getElem?_eq_none (by rw [cenT_len]; omega)]
    by_cases he : 3 * j + D = i
    · subst he
      rw [if_pos rfl, if_neg hi]
    · rw [if_neg he]
theorem cenT_keep {a b c : Int} {L : List Q} {D j : Nat} (hD : D < 3) (hx : cenK a b c D L (3 * j + D) = lk L ((3 * j + D : Nat) : Int)) : cenT a b c D L j = cenT a b c D L (j + 1) := by
  rw [← cenT_set hD, hx]
  apply List.ext_getElem?
  intro i
  rw [List.getElem?_set, cenT_len]
  by_cases he : 3 * j + D = i
  · subst he
    rw [if_pos rfl]
    by_cases hi : 3 * j + D < L.length
    · rw [if_pos hi, cenT_get hi, if_neg (by omega)]
    · rw [if_neg hi, List.getElem?_eq_none (by rw [cenT_len]; omega)]
  · rw [if_neg he]
theorem cenB_at0 (a b c : Int) (L : List Q) (j : Nat) : cenK a b c (0 : Nat) L (3 * j) = sgC (decide ((j : Int) % a = 0)) (lk L ((3 * j : Nat) : Int)) := by
  unfold cenK cenB
  rw [decide_eq_true (show (((3 * j : Nat) : Int)) % 3 = ((0 : Nat) : Int) by omega), Bool.true_and]
  congr 1
  rw [show (((3 * j : Nat) : Int)) / 3 = (j : Int) by omega]
  simp
set_option maxHeartbeats 6400000 in
theorem center_ok0 (a b c : Int) (bl off cap N : Nat) (L : List Q) (w : World) (hl : Lies w bl off L) (hF : Fl a b c L) (hN : (N : Int) = a * b * c) : Calls Tryz.prog 16 #[.agg #[.int .i64 a, .int .i64 b, .int .i64 c, .slice (some ⟨bl, off, none⟩) L.length cap], .int .i64 0] w fun e w' => RetTf a b c L.length (cenL a b c 0 L) e w' ∧ Below w.heap.size w w' := by
  have H := Lib.hid hl
  have hlen := fld_len (Fl_fldR hF)
  have hn := hF.n
  have hz := hF.z
  obtain ⟨-, -, p3, -⟩ := mul_rng hz.a1 hz.a4 hz.b1 hz.b4 hz.c1 hz.c4
  have hp16 := hz.p
  have c1 := fun (W : World) (h : Lies W bl off L) => validateF_any a b c 0 (some ⟨bl, off, none⟩) cap L W (.inr ⟨bl, off, rfl, h⟩) (Fl_fldR hF) (by omega)
  have c3 := fun (W : World) (h : Lies W bl off L) => clone_some bl off cap L W h (by omega) (by omega)
  have HP := Lib.hid (fun (j : Nat) (hj : j < N) (W : World) => place_any a b c (j : Int) ((j : Int) % a) ((j : Int) / a % b) ((j : Int) / a / b) 0 W (.inr (.inr ⟨hz, by omega, by omega, rfl, rfl, rfl, rfl⟩)))
  have HV := Lib.hid (fun (i : Nat) (hi : i < L.length) => (hF.v _ _ (lk_at (L := L) hi)).1)
  have hlN := Lib.hid (show L.length = 3 * N by omega)
  have hN16 : N ≤ 16 := by omega
  clear hl hF hz p3 hp16 hlen hn hN
  go_enter Tryz.func16, Tryz.ntmps16
  have f0 : FW ((w.alloc (.cells #[.int .i64 a, .int .i64 b, .int .i64 c, .slice (some ⟨bl, off, none⟩) L.length cap] 25)).alloc (.cells #[.int .i64 0, .int .i64 0, .int .i64 0, .slice none 0 0] 25)) w.heap.size a b c (.slice (some ⟨bl, off, none⟩) L.length cap) := FW.n2a
  have g0 : FW ((w.alloc (.cells #[.int .i64 a, .int .i64 b, .int .i64 c, .slice (some ⟨bl, off, none⟩) L.length cap] 25)).alloc (.cells #[.int .i64 0, .int .i64 0, .int .i64 0, .slice none 0 0] 25)) (w.heap.size + 1) 0 0 0 (.slice none 0 0) := FW.n2b
  have F0 := Lib.hid f0
  have G0 := Lib.hid g0
  clear f0 g0
  go_wp2_with (fail)
  refine (c1 _ (H.out.later ba2)).mono ?_
  rintro e w1 ⟨rfl, hw1⟩
  have F1 := Lib.hid (F0.out.later hw1)
  have G1 := Lib.hid (G0.out.later hw1)
  have B1 := Lib.hid (bel2 hw1)
  clear hw1 F0 G0 c1
  obtain ⟨f0, f1, f2, f3, ff, fl⟩ := F1.out
  go_wp2_with (fail)
  refine (c3 _ (H.out.later B1.out)).mono ?_
  rintro e w3 ⟨g, k, rfl, LB, hg, hw3⟩
  have F3 := Lib.hid (F1.out.later hw3)
  have G3 := Lib.hid (G1.out.later hw3)
  have B3 := Lib.hid (B1.out.trans (hw3.mono B1.out.size))
  have HL3 : Hid (LBox w3 g (cenT a b c 0 L 0)) := Lib.hid (by rw [cenT_zero]; exact LB)
  have HG := Lib.hid (show w.heap.size + 1 < g from Nat.lt_of_lt_of_le G1.out.lt hg)
  clear hw3 F1 G1 B1 LB hg c3 f0 f1 f2 f3 ff fl
  go_wp2
  go_loopw [8] (fun q wr => ∃ j : Nat, j ≤ N ∧ q = .int .i64 (3 * (j : Int)) ∧ Hid (LBox wr g (cenT a b c 0 L j)) ∧ Hid (FW wr w.heap.size a b c (.slice (some ⟨bl, off, none⟩) L.length cap)) ∧ Hid (FW wr (w.heap.size + 1) 0 0 0 (.slice none 0 0)) ∧ Hid (Below w.heap.size w wr)) (fun q _ => (3 * (N : Int) + 3 - intOf q).toNat)
  case atStart => exact ⟨0, by omega, by simp, HL3, F3, G3, B3⟩
  case round =>
    obtain ⟨j, hj, rfl, HL, HF, HR, HB⟩ := hrel
    clear HL3 F3 G3 B3
    by_cases hlt : j < N
    · have i1 : 3 * (j : Int) < (L.length : Int) := by have := hlN.out; omega
      have cP := HP.out j hlt
      have hi3 : 3 * j < L.length := by have := hlN.out; omega
      have hx := (cenT_get (a := a) (b := b) (c := c) (d := ((0 : Nat) : Int)) (j := j) hi3).trans (by rw [if_neg (by omega)])
      have hxV := HV.out (3 * j) hi3
      have hB := cenB_at0 a b c L j
      generalize hxx : lk L ((3 * j : Nat) : Int) = x at *
      have HXX := Lib.hid hxx
      clear hxx
      have HX := Lib.hid hx
      generalize hp0 : (j : Int) % a = p0 at *
      generalize hp1 : (j : Int) / a % b = p1 at *
      generalize hp2 : (j : Int) / a / b = p2 at *
      have HBk := Lib.hid hB
      clear hp0 hp1 hp2 hx hB
      obtain ⟨f0, f1, f2, f3, ff, fl⟩ := HF.out
      go_wp2_with (fail)
      refine (cP _).mono ?_
      rintro e w4 ⟨rfl, hw4⟩
      have L5 := Lib.hid ((HL.out.later hw4).later (ba1 (o := .cells #[.int .i64 p0, .int .i64 p1, .int .i64 p2] 22)))
      have F5 := Lib.hid ((HF.out.later hw4).later (ba1 (o := .cells #[.int .i64 p0, .int .i64 p1, .int .i64 p2] 22)))
      have R5 := Lib.hid ((HR.out.later hw4).later (ba1 (o := .cells #[.int .i64 p0, .int .i64 p1, .int .i64 p2] 22)))
      have B5 := Lib.hid ((HB.out.trans (hw4.mono HB.out.size)).trans ((ba1 (o := .cells #[.int .i64 p0, .int .i64 p1, .int .i64 p2] 22)).mono (HB.out.trans (hw4.mono HB.out.size)).size))
      clear hw4 HL HF HR HB cP f0 f1 f2 f3 ff fl
      by_cases hq : p0 = 0
      · subst hq
        obtain ⟨l0, l1, l2, l3, l4⟩ := L5.out.at HX.out
        have lf := L5.out.free
        have ll := L5.out.lt
        have cN := fun W : World => neg_ok x W hxV
        go_wp2_with (fail)
        refine (cN _).mono ?_
        rintro e w6 ⟨rfl, hw6⟩
        have L6 := Lib.hid (L5.out.later hw6)
        have F6 := Lib.hid (F5.out.later hw6)
        have R6 := Lib.hid (R5.out.later hw6)
        have B6 := Lib.hid (B5.out.trans (hw6.mono B5.out.size))
        clear hw6 L5 F5 R5 B5 l0 l1 l2 l3 l4 lf ll cN
        obtain ⟨l0, l1, l2, l3, l4⟩ := L6.out.at HX.out
        have lf := L6.out.free
        have ll := L6.out.lt
        have hgg := HG.out
        have GG := grown_setCells g (uc (neg x)) ((3 * j) * 5) w6
        have hcl : 3 * j < (cenT a b c ((0 : Nat) : Int) L j).length := by rw [cenT_len]; exact hi3
        have LP := L6.out.put (3 * j) hcl (neg x)
        have hK : cenK a b c ((0 : Nat) : Int) L (3 * j) = neg x := by rw [HBk.out]; rfl
        have hS : (cenT a b c ((0 : Nat) : Int) L j).set (3 * j) (cenK a b c ((0 : Nat) : Int) L (3 * j)) = cenT a b c ((0 : Nat) : Int) L (j + 1) := cenT_set (by decide)
        rw [hK] at hS
        have HL7 : Hid (LBox (w6.setCells g ((3 * j) * 5) (uc (neg x))) g (cenT a b c ((0 : Nat) : Int) L (j + 1))) := Lib.hid (by rw [← hS]; exact LP)
        have HF7 := Lib.hid (F6.out.grown GG (by simp; omega))
        have HR7 := Lib.hid (R6.out.grown GG (by simp; omega))
        have HB7 := Lib.hid (B6.out.grown GG B6.out.size (fun j e => by cases e; omega))
        clear GG hcl LP hK hS L6 F6 R6 B6 hgg
        clear hi3 hxV
        go_wp2
        exact ⟨⟨j + 1, by omega, by go_num, HL7, HF7, HR7, HB7⟩, by simp [intOf]; omega⟩
      · have t : (p0 != 0) = true := by simpa using hq
        have HK : Hid (cenT a b c ((0 : Nat) : Int) L j = cenT a b c ((0 : Nat) : Int) L (j + 1)) := Lib.hid (cenT_keep (by decide) (show cenK a b c ((0 : Nat) : Int) L (3 * j) = lk L ((3 * j : Nat) : Int) from by rw [HBk.out, HXX.out, decide_eq_false hq]; rfl))
        have L7 : Hid (LBox (w4.alloc (.cells #[.int .i64 p0, .int .i64 p1, .int .i64 p2] 22)) g (cenT a b c ((0 : Nat) : Int) L (j + 1))) := Lib.hid (by rw [← HK.out]; exact L5.out)
        clear hq hi3 hxV
        go_wp2
        exact ⟨⟨j + 1, by omega, by go_num, L7, F5, R5, B5⟩, by simp [intOf]; omega⟩
    · obtain rfl : N = j := by omega
      have hA : Hid (LBox wr g (cenL a b c ((0 : Nat) : Int) L)) := Lib.hid (by rw [← cenT_all (N := N) (by rw [hlN.out]; exact Nat.le_refl _)]; exact HL.out)
      have i2 : ¬ (3 * (N : Int) < (L.length : Int)) := by have := hlN.out; omega
      obtain ⟨f0, f1, f2, f3, ff, fl⟩ := HF.out
      obtain ⟨r0, r1, r2, r3, rf, rl⟩ := HR.out
      have hgg := HG.out
      have G2 := grown_setCells (w.heap.size + 1) [.int .i64 a, .int .i64 b, .int .i64 c, .slice (some ⟨g, 0, none⟩) L.length k] 0 wr
      have L8 := Lib.hid (hA.out.grown G2 (by simp; omega))
      have B8 := Lib.hid (HB.out.grown G2 HB.out.size (fun j e => by cases e; omega))
      clear G2 hA HL HF HR HB hgg
      go_wp2
      refine bodyPost_ret (v := .tuple #[.agg #[.int .i64 a, .int .i64 b, .int .i64 c, .slice (some ⟨g, 0, none⟩) L.length k], .int .i64 0]) ?_ rfl ⟨⟨g, k, rfl, L8.out⟩, B8.out⟩
      simp [results, Tryz.results16, go_sem, r0, r1, r2, r3, rl]
theorem cenB_at1 (a b c : Int) (L : List Q) (j : Nat) : cenK a b c (1 : Nat) L (3 * j + 1) = sgC (decide ((j : Int) / a % b = 0)) (lk L ((3 * j + 1 : Nat) : Int)) := by
  unfold cenK cenB
  rw [decide_eq_true (show (((3 * j + 1 : Nat) : Int)) % 3 = ((1 : Nat) : Int) by omega), Bool.true_and]
  congr 1
  rw [show (((3 * j + 1 : Nat) : Int)) / 3 = (j : Int) by omega]
  simp
set_option maxHeartbeats 6400000 in
theorem center_ok1 (a b c : Int) (bl off cap N : Nat) (L : List Q) (w : World) (hl : Lies w bl off L) (hF : Fl a b c L) (hN : (N : Int) = a * b * c) : Calls Tryz.prog 16 #[.agg #[.int .i64 a, .int .i64 b, .int .i64 c, .slice (some ⟨bl, off, none⟩) L.length cap], .int .i64 1] w fun e w' => RetTf a b c L.length (cenL a b c 1 L) e w' ∧ Below w.heap.size w w' := by
  have H := Lib.hid hl
  have hlen := fld_len (Fl_fldR hF)
  have hn := hF.n
  have hz := hF.z
  obtain ⟨-, -, p3, -⟩ := mul_rng hz.a1 hz.a4 hz.b1 hz.b4 hz.c1 hz.c4
  have hp16 := hz.p
  have c1 := fun (W : World) (h : Lies W bl off L) => validateF_any a b c 0 (some ⟨bl, off, none⟩) cap L W (.inr ⟨bl, off, rfl, h⟩) (Fl_fldR hF) (by omega)
  have c3 := fun (W : World) (h : Lies W bl off L) => clone_some bl off cap L W h (by omega) (by omega)
  have HP := Lib.hid (fun (j : Nat) (hj : j < N) (W : World) => place_any a b c (j : Int) ((j : Int) % a) ((j : Int) / a % b) ((j : Int) / a / b) 0 W (.inr (.inr ⟨hz, by omega, by omega, rfl, rfl, rfl, rfl⟩)))
  have HV := Lib.hid (fun (i : Nat) (hi : i < L.length) => (hF.v _ _ (lk_at (L := L) hi)).1)
  have hlN := Lib.hid (show L.length = 3 * N by omega)
  have hN16 : N ≤ 16 := by omega
  clear hl hF hz p3 hp16 hlen hn hN
  go_enter Tryz.func16, Tryz.ntmps16
  have f0 : FW ((w.alloc (.cells #[.int .i64 a, .int .i64 b, .int .i64 c, .slice (some ⟨bl, off, none⟩) L.length cap] 25)).alloc (.cells #[.int .i64 0, .int .i64 0, .int .i64 0, .slice none 0 0] 25)) w.heap.size a b c (.slice (some ⟨bl, off, none⟩) L.length cap) := FW.n2a
  have g0 : FW ((w.alloc (.cells #[.int .i64 a, .int .i64 b, .int .i64 c, .slice (some ⟨bl, off, none⟩) L.length cap] 25)).alloc (.cells #[.int .i64 0, .int .i64 0, .int .i64 0, .slice none 0 0] 25)) (w.heap.size + 1) 0 0 0 (.slice none 0 0) := FW.n2b
  have F0 := Lib.hid f0
  have G0 := Lib.hid g0
  clear f0 g0
  go_wp2_with (fail)
  refine (c1 _ (H.out.later ba2)).mono ?_
  rintro e w1 ⟨rfl, hw1⟩
  have F1 := Lib.hid (F0.out.later hw1)
  have G1 := Lib.hid (G0.out.later hw1)
  have B1 := Lib.hid (bel2 hw1)
  clear hw1 F0 G0 c1
  obtain ⟨f0, f1, f2, f3, ff, fl⟩ := F1.out
  go_wp2_with (fail)
  refine (c3 _ (H.out.later B1.out)).mono ?_
  rintro e w3 ⟨g, k, rfl, LB, hg, hw3⟩
  have F3 := Lib.hid (F1.out.later hw3)
  have G3 := Lib.hid (G1.out.later hw3)
  have B3 := Lib.hid (B1.out.trans (hw3.mono B1.out.size))
  have HL3 : Hid (LBox w3 g (cenT a b c 1 L 0)) := Lib.hid (by rw [cenT_zero]; exact LB)
  have HG := Lib.hid (show w.heap.size + 1 < g from Nat.lt_of_lt_of_le G1.out.lt hg)
  clear hw3 F1 G1 B1 LB hg c3 f0 f1 f2 f3 ff fl
  go_wp2
  go_loopw [8] (fun q wr => ∃ j : Nat, j ≤ N ∧ q = .int .i64 (3 * (j : Int) + 1) ∧ Hid (LBox wr g (cenT a b c 1 L j)) ∧ Hid (FW wr w.heap.size a b c (.slice (some ⟨bl, off, none⟩) L.length cap)) ∧ Hid (FW wr (w.heap.size + 1) 0 0 0 (.slice none 0 0)) ∧ Hid (Below w.heap.size w wr)) (fun q _ => (3 * (N : Int) + 3 - intOf q).toNat)
  case atStart => exact ⟨0, by omega, by simp, HL3, F3, G3, B3⟩
  case round =>
    obtain ⟨j, hj, rfl, HL, HF, HR, HB⟩ := hrel
    clear HL3 F3 G3 B3
    by_cases hlt : j < N
    · have i1 : 3 * (j : Int) + 1 < (L.length : Int) := by have := hlN.out; omega
      have cP := HP.out j hlt
      have hi3 : 3 * j + 1 < L.length := by have := hlN.out; omega
      have hx := (cenT_get (a := a) (b := b) (c := c) (d := ((1 : Nat) : Int)) (j := j) hi3).trans (by rw [if_neg (by omega)])
      have hxV := HV.out (3 * j + 1) hi3
      have hB := cenB_at1 a b c L j
      generalize hxx : lk L ((3 * j + 1 : Nat) : Int) = x at *
      have HXX := Lib.hid hxx
      clear hxx
      have HX := Lib.hid hx
      generalize hp0 : (j : Int) % a = p0 at *
      generalize hp1 : (j : Int) / a % b = p1 at *
      generalize hp2 : (j : Int) / a / b = p2 at *
      have HBk := Lib.hid hB
      have hdv : (3 * (j : Int) + 1) / 3 = (j : Int) := by omega
      rw [← hdv] at cP
      clear hdv
      clear hp0 hp1 hp2 hx hB
      obtain ⟨f0, f1, f2, f3, ff, fl⟩ := HF.out
      go_wp2_with (fail)
      refine (cP _).mono ?_
      rintro e w4 ⟨rfl, hw4⟩
      have L5 := Lib.hid ((HL.out.later hw4).later (ba1 (o := .cells #[.int .i64 p0, .int .i64 p1, .int .i64 p2] 22)))
      have F5 := Lib.hid ((HF.out.later hw4).later (ba1 (o := .cells #[.int .i64 p0, .int .i64 p1, .int .i64 p2] 22)))
      have R5 := Lib.hid ((HR.out.later hw4).later (ba1 (o := .cells #[.int .i64 p0, .int .i64 p1, .int .i64 p2] 22)))
      have B5 := Lib.hid ((HB.out.trans (hw4.mono HB.out.size)).trans ((ba1 (o := .cells #[.int .i64 p0, .int .i64 p1, .int .i64 p2] 22)).mono (HB.out.trans (hw4.mono HB.out.size)).size))
      clear hw4 HL HF HR HB cP f0 f1 f2 f3 ff fl
      by_cases hq : p1 = 0
      · subst hq
        obtain ⟨l0, l1, l2, l3, l4⟩ := L5.out.at HX.out
        have lf := L5.out.free
        have ll := L5.out.lt
        have cN := fun W : World => neg_ok x W hxV
        go_wp2_with (fail)
        refine (cN _).mono ?_
        rintro e w6 ⟨rfl, hw6⟩
        have L6 := Lib.hid (L5.out.later hw6)
        have F6 := Lib.hid (F5.out.later hw6)
        have R6 := Lib.hid (R5.out.later hw6)
        have B6 := Lib.hid (B5.out.trans (hw6.mono B5.out.size))
        clear hw6 L5 F5 R5 B5 l0 l1 l2 l3 l4 lf ll cN
        obtain ⟨l0, l1, l2, l3, l4⟩ := L6.out.at HX.out
        have lf := L6.out.free
        have ll := L6.out.lt
        have hgg := HG.out
        have GG := grown_setCells g (uc (neg x)) ((3 * j + 1) * 5) w6
        have hcl : 3 * j + 1 < (cenT a b c ((1 : Nat) : Int) L j).length := by rw [cenT_len]; exact hi3
        have LP := L6.out.put (3 * j + 1) hcl (neg x)
        have hK : cenK a b c ((1 : Nat) : Int) L (3 * j + 1) = neg x := by rw [HBk.out]; rfl
        have hS : (cenT a b c ((1 : Nat) : Int) L j).set (3 * j + 1) (cenK a b c ((1 : Nat) : Int) L (3 * j + 1)) = cenT a b c ((1 : Nat) : Int) L (j + 1) := cenT_set (by decide)
        rw [hK] at hS
        have HL7 : Hid (LBox (w6.setCells g ((3 * j + 1) * 5) (uc (neg x))) g (cenT a b c ((1 : Nat) : Int) L (j + 1))) := Lib.hid (by rw [← hS]; exact LP)
        have HF7 := Lib.hid (F6.out.grown GG (by simp; omega))
        have HR7 := Lib.hid (R6.out.grown GG (by simp; omega))
        have HB7 := Lib.hid (B6.out.grown GG B6.out.size (fun j e => by cases e; omega))
        clear GG hcl LP hK hS L6 F6 R6 B6 hgg
        clear hi3 hxV
        go_wp2
        exact ⟨⟨j + 1, by omega, by go_num, HL7, HF7, HR7, HB7⟩, by simp [intOf]; omega⟩
      · have t : (p1 != 0) = true := by simpa using hq
        have HK : Hid (cenT a b c ((1 : Nat) : Int) L j = cenT a b c ((1 : Nat) : Int) L (j + 1)) := Lib.hid (cenT_keep (by decide) (show cenK a b c ((1 : Nat) : Int) L (3 * j + 1) = lk L ((3 * j + 1 : Nat) : Int) from by rw [HBk.out, HXX.out, decide_eq_false hq]; rfl))
        have L7 : Hid (LBox (w4.alloc (.cells #[.int .i64 p0, .int .i64 p1, .int .i64 p2] 22)) g (cenT a b c ((1 : Nat) : Int) L (j + 1))) := Lib.hid (by rw [← HK.out]; exact L5.out)
        clear hq hi3 hxV
        go_wp2
        exact ⟨⟨j + 1, by omega, by go_num, L7, F5, R5, B5⟩, by simp [intOf]; omega⟩
    · obtain rfl : N = j := by omega
      have hA : Hid (LBox wr g (cenL a b c ((1 : Nat) : Int) L)) := Lib.hid (by rw [← cenT_all (N := N) (by rw [hlN.out]; exact Nat.le_refl _)]; exact HL.out)
      have i2 : ¬ (3 * (N : Int) + 1 < (L.length : Int)) := by have := hlN.out; omega
      obtain ⟨f0, f1, f2, f3, ff, fl⟩ := HF.out
      obtain ⟨r0, r1, r2, r3, rf, rl⟩ := HR.out
      have hgg := HG.out
      have G2 := grown_setCells (w.heap.size + 1) [.int .i64 a, .int .i64 b, .int .i64 c, .slice (some ⟨g, 0, none⟩) L.length k] 0 wr
      have L8 := Lib.hid (hA.out.grown G2 (by simp; omega))
      have B8 := Lib.hid (HB.out.grown G2 HB.out.size (fun j e => by cases e; omega))
      clear G2 hA HL HF HR HB hgg
      go_wp2
      refine bodyPost_ret (v := .tuple #[.agg #[.int .i64 a, .int .i64 b, .int .i64 c, .slice (some ⟨g, 0, none⟩) L.length k], .int .i64 0]) ?_ rfl ⟨⟨g, k, rfl, L8.out⟩, B8.out⟩
      simp [results, Tryz.results16, go_sem, r0, r1, r2, r3, rl]
theorem cenB_at2 (a b c : Int) (L : List Q) (j : Nat) : cenK a b c (2 : Nat) L (3 * j + 2) = sgC (decide ((j : Int) / a / b = 0)) (lk L ((3 * j + 2 : Nat) : Int)) := by
  unfold cenK cenB
  rw [decide_eq_true (show (((3 * j + 2 : Nat) : Int)) % 3 = ((2 : Nat) : Int) by omega), Bool.true_and]
  congr 1
  rw [show (((3 * j + 2 : Nat) : Int)) / 3 = (j : Int) by omega]
  simp
set_option maxHeartbeats 6400000 in
theorem center_ok2 (a b c : Int) (bl off cap N : Nat) (L : List Q) (w : World) (hl : Lies w bl off L) (hF : Fl a b c L) (hN : (N : Int) = a * b * c) : Calls Tryz.prog 16 #[.agg #[.int .i64 a, .int .i64 b, .int .i64 c, .slice (some ⟨bl, off, none⟩) L.length cap], .int .i64 2] w fun e w' => RetTf a b c L.length (cenL a b c 2 L) e w' ∧ Below w.heap.size w w' := by
  have H := Lib.hid hl
  have hlen := fld_len (Fl_fldR hF)
  have hn := hF.n
  have hz := hF.z
  obtain ⟨-, -, p3, -⟩ := mul_rng hz.a1 hz.a4 hz.b1 hz.b4 hz.c1 hz.c4
  have hp16 := hz.p
  have c1 := fun (W : World) (h : Lies W bl off L) => validateF_any a b c 0 (some ⟨bl, off, none⟩) cap L W (.inr ⟨bl, off, rfl, h⟩) (Fl_fldR hF) (by omega)
  have c3 := fun (W : World) (h : Lies W bl off L) => clone_some bl off cap L W h (by omega) (by omega)
  have HP := Lib.hid (fun (j : Nat) (hj : j < N) (W : World) => place_any a b c (j : Int) ((j : Int) % a) ((j : Int) / a % b) ((j : Int) / a / b) 0 W (.inr (.inr ⟨hz, by omega, by omega, rfl, rfl, rfl, rfl⟩)))
  have HV := Lib.hid (fun (i : Nat) (hi : i < L.length) => (hF.v _ _ (lk_at (L := L) hi)).1)
  have hlN := Lib.hid (show L.length = 3 * N by omega)
  have hN16 : N ≤ 16 := by omega
  clear hl hF hz p3 hp16 hlen hn hN
  go_enter Tryz.func16, Tryz.ntmps16
  have f0 : FW ((w.alloc (.cells #[.int .i64 a, .int .i64 b, .int .i64 c, .slice (some ⟨bl, off, none⟩) L.length cap] 25)).alloc (.cells #[.int .i64 0, .int .i64 0, .int .i64 0, .slice none 0 0] 25)) w.heap.size a b c (.slice (some ⟨bl, off, none⟩) L.length cap) := FW.n2a
  have g0 : FW ((w.alloc (.cells #[.int .i64 a, .int .i64 b, .int .i64 c, .slice (some ⟨bl, off, none⟩) L.length cap] 25)).alloc (.cells #[.int .i64 0, .int .i64 0, .int .i64 0, .slice none 0 0] 25)) (w.heap.size + 1) 0 0 0 (.slice none 0 0) := FW.n2b
  have F0 := Lib.hid f0
  have G0 := Lib.hid g0
  clear f0 g0
  go_wp2_with (fail)
  refine (c1 _ (H.out.later ba2)).mono ?_
  rintro e w1 ⟨rfl, hw1⟩
  have F1 := Lib.hid (F0.out.later hw1)
  have G1 := Lib.hid (G0.out.later hw1)
  have B1 := Lib.hid (bel2 hw1)
  clear hw1 F0 G0 c1
  obtain ⟨f0, f1, f2, f3, ff, fl⟩ := F1.out
  go_wp2_with (fail)
  refine (c3 _ (H.out.later B1.out)).mono ?_
  rintro e w3 ⟨g, k, rfl, LB, hg, hw3⟩
  have F3 := Lib.hid (F1.out.later hw3)
  have G3 := Lib.hid (G1.out.later hw3)
  have B3 := Lib.hid (B1.out.trans (hw3.mono B1.out.size))
  have HL3 : Hid (LBox w3 g (cenT a b c 2 L 0)) := Lib.hid (by rw [cenT_zero]; exact LB)
  have HG := Lib.hid (show w.heap.size + 1 < g from Nat.lt_of_lt_of_le G1.out.lt hg)
  clear hw3 F1 G1 B1 LB hg c3 f0 f1 f2 f3 ff fl
  go_wp2
  go_loopw [8] (fun q wr => ∃ j : Nat, j ≤ N ∧ q = .int .i64 (3 * (j : Int) + 2) ∧ Hid (LBox wr g (cenT a b c 2 L j)) ∧ Hid (FW wr w.heap.size a b c (.slice (some ⟨bl, off, none⟩) L.length cap)) ∧ Hid (FW wr (w.heap.size + 1) 0 0 0 (.slice none 0 0)) ∧ Hid (Below w.heap.size w wr)) (fun q _ => (3 * (N : Int) + 3 - intOf q).toNat)
  case atStart => exact ⟨0, by omega, by simp, HL3, F3, G3, B3⟩
  case round =>
    obtain ⟨j, hj, rfl, HL, HF, HR, HB⟩ := hrel
    clear HL3 F3 G3 B3
    by_cases hlt : j < N
    · have i1 : 3 * (j : Int) + 2 < (L.length : Int) := by have := hlN.out; omega
      have cP := HP.out j hlt
      have hi3 : 3 * j + 2 < L.length := by have := hlN.out; omega
      have hx := (cenT_get (a := a) (b := b) (c := c) (d := ((2 : Nat) : Int)) (j := j) hi3).trans (by rw [if_neg (by omega)])
      have hxV := HV.out (3 * j + 2) hi3
      have hB := cenB_at2 a b c L j
      generalize hxx : lk L ((3 * j + 2 : Nat) : Int) = x at *
      have HXX := Lib.hid hxx
      clear hxx
      have HX := Lib.hid hx
      generalize hp0 : (j : Int) % a = p0 at *
      generalize hp1 : (j : Int) / a % b = p1 at *
      generalize hp2 : (j : Int) / a / b = p2 at *
      have HBk := Lib.hid hB
      have hdv : (3 * (j : Int) + 2) / 3 = (j : Int) := by omega
      rw [← hdv] at cP
      clear hdv
      clear hp0 hp1 hp2 hx hB
      obtain ⟨f0, f1, f2, f3, ff, fl⟩ := HF.out
      go_wp2_with (fail)
      refine (cP _).mono ?_
      rintro e w4 ⟨rfl, hw4⟩
      have L5 := Lib.hid ((HL.out.later hw4).later (ba1 (o := .cells #[.int .i64 p0, .int .i64 p1, .int .i64 p2] 22)))
      have F5 := Lib.hid ((HF.out.later hw4).later (ba1 (o := .cells #[.int .i64 p0, .int .i64 p1, .int .i64 p2] 22)))
      have R5 := Lib.hid ((HR.out.later hw4).later (ba1 (o := .cells #[.int .i64 p0, .int .i64 p1, .int .i64 p2] 22)))
      have B5 := Lib.hid ((HB.out.trans (hw4.mono HB.out.size)).trans ((ba1 (o := .cells #[.int .i64 p0, .int .i64 p1, .int .i64 p2] 22)).mono (HB.out.trans (hw4.mono HB.out.size)).size))
      clear hw4 HL HF HR HB cP f0 f1 f2 f3 ff fl
      by_cases hq : p2 = 0
      · subst hq
        obtain ⟨l0, l1, l2, l3, l4⟩ := L5.out.at HX.out
        have lf := L5.out.free
        have ll := L5.out.lt
        have cN := fun W : World => neg_ok x W hxV
        go_wp2_with (fail)
        refine (cN _).mono ?_
        rintro e w6 ⟨rfl, hw6⟩
        have L6 := Lib.hid (L5.out.later hw6)
        have F6 := Lib.hid (F5.out.later hw6)
        have R6 := Lib.hid (R5.out.later hw6)
        have B6 := Lib.hid (B5.out.trans (hw6.mono B5.out.size))
        clear hw6 L5 F5 R5 B5 l0 l1 l2 l3 l4 lf ll cN
        obtain ⟨l0, l1, l2, l3, l4⟩ := L6.out.at HX.out
        have lf := L6.out.free
        have ll := L6.out.lt
        have hgg := HG.out
        have GG := grown_setCells g (uc (neg x)) ((3 * j + 2) * 5) w6
        have hcl : 3 * j + 2 < (cenT a b c ((2 : Nat) : Int) L j).length := by rw [cenT_len]; exact hi3
        have LP := L6.out.put (3 * j + 2) hcl (neg x)
        have hK : cenK a b c ((2 : Nat) : Int) L (3 * j + 2) = neg x := by rw [HBk.out]; rfl
        have hS : (cenT a b c ((2 : Nat) : Int) L j).set (3 * j + 2) (cenK a b c ((2 : Nat) : Int) L (3 * j + 2)) = cenT a b c ((2 : Nat) : Int) L (j + 1) := cenT_set (by decide)
        rw [hK] at hS
        have HL7 : Hid (LBox (w6.setCells g ((3 * j + 2) * 5) (uc (neg x))) g (cenT a b c ((2 : Nat) : Int) L (j + 1))) := Lib.hid (by rw [← hS]; exact LP)
        have HF7 := Lib.hid (F6.out.grown GG (by simp; omega))
        have HR7 := Lib.hid (R6.out.grown GG (by simp; omega))
        have HB7 := Lib.hid (B6.out.grown GG B6.out.size (fun j e => by cases e; omega))
        clear GG hcl LP hK hS L6 F6 R6 B6 hgg
        clear hi3 hxV
        go_wp2
        exact ⟨⟨j + 1, by omega, by go_num, HL7, HF7, HR7, HB7⟩, by simp [intOf]; omega⟩
      · have t : (p2 != 0) = true := by simpa using hq
        have HK : Hid (cenT a b c ((2 : Nat) : Int) L j = cenT a b c ((2 : Nat) : Int) L (j + 1)) := Lib.hid (cenT_keep (by decide) (show cenK a b c ((2 : Nat) : Int) L (3 * j + 2) = lk L ((3 * j + 2 : Nat) : Int) from by rw [HBk.out, HXX.out, decide_eq_false hq]; rfl))
        have L7 : Hid (LBox (w4.alloc (.cells #[.int .i64 p0, .int .i64 p1, .int .i64 p2] 22)) g (cenT a b c ((2 : Nat) : Int) L (j + 1))) := Lib.hid (by rw [← HK.out]; exact L5.out)
        clear hq hi3 hxV
        go_wp2
        exact ⟨⟨j + 1, by omega, by go_num, L7, F5, R5, B5⟩, by simp [intOf]; omega⟩
    · obtain rfl : N = j := by omega
      have hA : Hid (LBox wr g (cenL a b c ((2 : Nat) : Int) L)) := Lib.hid (by rw [← cenT_all (N := N) (by rw [hlN.out]; exact Nat.le_refl _)]; exact HL.out)
      have i2 : ¬ (3 * (N : Int) + 2 < (L.length : Int)) := by have := hlN.out; omega
      obtain ⟨f0, f1, f2, f3, ff, fl⟩ := HF.out
      obtain ⟨r0, r1, r2, r3, rf, rl⟩ := HR.out
      have hgg := HG.out
      have G2 := grown_setCells (w.heap.size + 1) [.int .i64 a, .int .i64 b, .int .i64 c, .slice (some ⟨g, 0, none⟩) L.length k] 0 wr
      have L8 := Lib.hid (hA.out.grown G2 (by simp; omega))
      have B8 := Lib.hid (HB.out.grown G2 HB.out.size (fun j e => by cases e; omega))
      clear G2 hA HL HF HR HB hgg
      go_wp2
      refine bodyPost_ret (v := .tuple #[.agg #[.int .i64 a, .int .i64 b, .int .i64 c, .slice (some ⟨g, 0, none⟩) L.length k], .int .i64 0]) ?_ rfl ⟨⟨g, k, rfl, L8.out⟩, B8.out⟩
      simp [results, Tryz.results16, go_sem, r0, r1, r2, r3, rl]
set_option maxHeartbeats 1600000 in
theorem center_bad (a b c d r : Int) (ao : Option Addr) (cap : Nat) (L : List Q) (w : World) (h : LiesO w ao L) (hr : fldR a b c L r) (h0 : r ≠ 0) (hlen : L.length ≤ 1000000) : Calls Tryz.prog 16 #[.agg #[.int .i64 a, .int .i64 b, .int .i64 c, .slice ao L.length cap], .int .i64 d] w fun e w' => e = .returned (.tuple #[.agg #[.int .i64 0, .int .i64 0, .int .i64 0, .slice none 0 0], .int .i64 r]) ∧ Below w.heap.size w w' := by
  have H := Lib.hid h
  have c1 := fun (W : World) (h : LiesO W ao L) => validateF_any a b c r ao cap L W h hr hlen
  have h0' : (r != 0) = true := by simpa using h0
  clear h hr h0
  go_enter Tryz.func16, Tryz.ntmps16
  go_wp2_with (fail)
  refine (c1 _ (H.out.later ba2)).mono ?_
  rintro e w1 ⟨rfl, hw1⟩
  have hc1 := Tail.cells hw1
  have zw10 := Nat.lt_of_lt_of_le (n := w.heap.size) (by simp <;> omega) hw1.size; have zw11 := Nat.lt_of_lt_of_le (n := w.heap.size + 1) (by simp <;> omega) hw1.size
  go_wp2
  refine bodyPost_ret (v := .tuple #[.agg #[.int .i64 0, .int .i64 0, .int .i64 0, .slice none 0 0], .int .i64 r]) ?_ rfl ⟨rfl, ?_⟩
  · simp [results, Tryz.results16, go_sem, hc1, zw10, zw11]
  · repeat (first | (with_reducible exact Below.refl _ _) | (with_reducible refine Below.setCell ?_ ?_ _) | (with_reducible refine Below.drew ?_) | (with_reducible refine Below.alloc ?_ ?_ _) | (with_reducible refine Below.trans ?_ (Below.mono hw1 ?_)) | (with_reducible exact hw1.size) | omega | (simp <;> omega) | (simp <;> (have s := hw1.size; omega)) | (have s0 := hw1.size; (try simp at s0); (try simp); omega))
set_option maxHeartbeats 1600000 in
theorem center_arg (a b c d : Int) (ao : Option Addr) (cap : Nat) (L : List Q) (w : World) (h : LiesO w ao L) (hr : fldR a b c L 0) (hd : ¬ (0 ≤ d ∧ d ≤ 2)) (hlen : L.length ≤ 1000000) : Calls Tryz.prog 16 #[.agg #[.int .i64 a, .int .i64 b, .int .i64 c, .slice ao L.length cap], .int .i64 d] w fun e w' => e = .returned (.tuple #[.agg #[.int .i64 0, .int .i64 0, .int .i64 0, .slice none 0 0], .int .i64 1]) ∧ Below w.heap.size w w' := by
  have H := Lib.hid h
  have c1 := fun (W : World) (h : LiesO W ao L) => validateF_any a b c 0 ao cap L W h hr hlen
  clear h hr
  by_cases hn : d < 0
  · clear hd
    go_enter Tryz.func16, Tryz.ntmps16
    go_wp2_with (fail)
    refine (c1 _ (H.out.later ba2)).mono ?_
    rintro e w1 ⟨rfl, hw1⟩
    have hc1 := Tail.cells hw1
    have zw10 := Nat.lt_of_lt_of_le (n := w.heap.size) (by simp <;> omega) hw1.size; have zw11 := Nat.lt_of_lt_of_le (n := w.heap.size + 1) (by simp <;> omega) hw1.size
    go_wp2
    refine bodyPost_ret (v := .tuple #[.agg #[.int .i64 0, .int .i64 0, .int .i64 0, .slice none 0 0], .int .i64 1]) ?_ rfl ⟨rfl, ?_⟩
    · simp [results, Tryz.results16, go_sem, hc1, zw10, zw11]
    · repeat (first | (with_reducible exact Below.refl _ _) | (with_reducible refine Below.setCell ?_ ?_ _) | (with_reducible refine Below.drew ?_) | (with_reducible refine Below.alloc ?_ ?_ _) | (with_reducible refine Below.trans ?_ (Below.mono hw1 ?_)) | (with_reducible exact hw1.size) | omega | (simp <;> omega) | (simp <;> (have s := hw1.size; omega)) | (have s0 := hw1.size; (try simp at s0); (try simp); omega))
  · have h3 : 3 ≤ d := by omega
    clear hd
    go_enter Tryz.func16, Tryz.ntmps16
    go_wp2_with (fail)
    refine (c1 _ (H.out.later ba2)).mono ?_
    rintro e w1 ⟨rfl, hw1⟩
    have hc1 := Tail.cells hw1
    have zw10 := Nat.lt_of_lt_of_le (n := w.heap.size) (by simp <;> omega) hw1.size; have zw11 := Nat.lt_of_lt_of_le (n := w.heap.size + 1) (by simp <;> omega) hw1.size
    go_wp2
    refine bodyPost_ret (v := .tuple #[.agg #[.int .i64 0, .int .i64 0, .int .i64 0, .slice none 0 0], .int .i64 1]) ?_ rfl ⟨rfl, ?_⟩
    · simp [results, Tryz.results16, go_sem, hc1, zw10, zw11]
    · repeat (first | (with_reducible exact Below.refl _ _) | (with_reducible refine Below.setCell ?_ ?_ _) | (with_reducible refine Below.drew ?_) | (with_reducible refine Below.alloc ?_ ?_ _) | (with_reducible refine Below.trans ?_ (Below.mono hw1 ?_)) | (with_reducible exact hw1.size) | omega | (simp <;> omega) | (simp <;> (have s := hw1.size; omega)) | (have s0 := hw1.size; (try simp at s0); (try simp); omega))
end Go.Proofs.YtkgihmhehkaocaaGreat
