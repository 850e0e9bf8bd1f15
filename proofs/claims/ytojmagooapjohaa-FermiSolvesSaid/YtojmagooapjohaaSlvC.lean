/- The solver's loop: it stops with panic, with a rounded solution where no correction is left.
Conditions: those written at each theorem. -/
import Derived.Test.YtojmagooapjohaaQuoC
import Derived.Test.YtojmagooapjohaaFermB
import Derived.WalkLawsBesides
namespace Go.Proofs.Ytojmagooapjohaa
set_option linter.unusedVariables false
set_option linter.unusedSimpArgs false
set_option maxRecDepth 1000000
open Go.RowKit
open Um Tm Fm

/-- an entry that lies in memory -/
def cellI (w : World) (g i : Nat) : Int := match w.cell? ⟨g, i, none⟩ with
  | some (.int _ x) => x
  | _ => 0
/-- a vector that lies in memory -/
def memS (w : World) (g n : Nat) : List Sp := tab n (fun s => ⟨cellI w g (s * 4), cellI w g (s * 4 + 1), cellI w g (s * 4 + 2), cellI w g (s * 4 + 3)⟩)
theorem cellI_of {w : World} {g i : Nat} {x : Int} (h : w.cell? ⟨g, i, none⟩ = some (.int .i64 x)) : cellI w g i = x := by
  unfold cellI; rw [h]
theorem memS_of {w : World} {g n : Nat} {X : List Sp} (h : IBox w g (fl X)) (hX : X.length = n) : memS w g n = X := by
  conv => rhs; rw [← tab_self X, hX]
  refine tab_congr fun s hs => ?_
  have hx := List.getElem?_eq_getElem (show s < X.length by omega)
  obtain ⟨q0, q1, q2, q3⟩ := fl_four hx
  rw [cellI_of (h.at q0), cellI_of (h.at q1), cellI_of (h.at q2), cellI_of (h.at q3), at0_of hx]
theorem inR_zero {n : Nat} {C : List Sp} (hn : C.length = n) : (inR 0 C true ∧ ∀ s, s < n → at0 C s = zs) ∨ (inR 0 C false ∧ ∃ s, s < n ∧ at0 C s ≠ zs) := by
  have key : ∀ p : Sp, InS 0 p ↔ p = zs := fun p => by
    refine ⟨fun h => ?_, fun h => ?_⟩
    · obtain ⟨h1, h2, h3, h4⟩ := h
      exact ext_S (show p.a = 0 by omega) (show p.b = 0 by omega) (show p.c = 0 by omega) (show p.d = 0 by omega)
    · subst h; unfold InS zs; decide
  by_cases h : AllE 0 C
  · exact .inl ⟨.inl ⟨h, rfl⟩, fun s hs => by
      have hx := List.getElem?_eq_getElem (show s < C.length by omega)
      rw [at0_of hx]
      exact (key _).1 (h _ _ hx)⟩
  · refine .inr ⟨.inr ⟨h, rfl⟩, ?_⟩
    refine Classical.byContradiction fun h2 => h fun i x hx => (key x).2 ?_
    refine Classical.byContradiction fun h3 => h2 ⟨i, by have := (List.getElem?_eq_some_iff.1 hx).1; omega, ?_⟩
    rw [at0_of hx]; exact h3
/-- what the solver stops with -/
def RetP (m : Nat) (ma : Int) (n : Nat) (A : List Arm) (B : List Sp) (e : Ending) (w' : World) : Prop := ∃ (g k : Nat) (X : List Sp), e = .panicked [{ v := .iface 108 (.agg #[.slice (some ⟨g, 0, none⟩) n k]), recovered := false }] ∧ LiesI w' g 0 (fl (rdL n X)) ∧ m ≤ g ∧ Inv (4 * ma) n A B X ∧ ∀ s, s < n → at0 (cor ma n A B X) s = zs
theorem prog_add {n : Nat} {X C : List Sp} {K : Int} (hX : X.length = n) (h : ∀ s, s < n → Bd K (at0 (lnL n 1 1 X C) s)) (hK : K ≤ 4000000000000000000) : axp 1 X C = lnL n 1 1 X C := by
  unfold axp lnL
  rw [hX]
  refine tab_congr fun s hs => ?_
  have := h s hs
  unfold lnL at this
  rw [at0_tab _ hs] at this
  rw [← bd_w this (by omega)]
  unfold axS linS
  congr 1
  refine ext_S ?_ ?_ ?_ ?_ <;> simp only [addS, smS] <;> omega
/-- a vector is answered -/
def GotV (m n : Nat) (X : List Sp) (e : Ending) (w' : World) : Prop := ∃ g k : Nat, e = .returned (.slice (some ⟨g, 0, none⟩) n k) ∧ IBox w' g (fl X) ∧ m ≤ g
set_option maxHeartbeats 6400000 in
theorem solve7_any (a b c ma : Int) (L : List Q) (base g n gc bb bo bc : Nat) (vs : Nat → Value) (B : List Sp) (w : World) (hF : Fld7 a b c L n) (hm : IsM ma) (hH : Hp w base g n vs (row (arms a b c L L.length))) (hB : LiesI w bb bo (fl B)) (hn : B.length = n) (hO : One4 L) (hBs : sqF (at0 B) n ≤ 549755813888 * 549755813888) (hBb : ∀ s, s < n → Bd 549755813888 (at0 B s)) : Calls Try.prog 58 #[.slice (some ⟨g, 0, none⟩) n gc, .int .i64 ma, .slice (some ⟨bb, bo, none⟩) n bc] w fun e w' => RetP w.heap.size ma n (arms a b c L L.length) B e w' ∧ Below w.heap.size w w' := by
  have hpos := hF.pos
  have hll := hF.l
  have hm1 : 1 ≤ ma ∧ ma ≤ 10 := hm
  have mm : 0 ≤ ma * ma ∧ ma * ma ≤ 100 := ⟨Int.mul_nonneg (by omega) (by omega), by have : ma * ma ≤ 10 * 10 := Int.mul_le_mul hm1.2 hm1.2 (by omega) (by omega); omega⟩
  have ea : 16 * ma * ma = 16 * (ma * ma) := Int.mul_assoc ..
  have hD : 0 < 16 * ma * ma + 72 := by omega
  have mk := fun (W : World) => makeS W n n rfl (by omega)
  have q1 : IntKind.i64.wrap (16 * ma) = 16 * ma := by rw [IntKind.wrap_i64]; omega
  have q2 : IntKind.i64.wrap (16 * ma * ma) = 16 * ma * ma := by rw [IntKind.wrap_i64]; omega
  have q3 : IntKind.i64.wrap (16 * ma * ma + 72) = 16 * ma * ma + 72 := by rw [IntKind.wrap_i64]; omega
  have q4 : wrap64 (16 * ma) = 16 * ma := w_in (by omega) (by omega)
  have q5 : wrap64 (16 * ma * ma) = 16 * ma * ma := w_in (by omega) (by omega)
  have q6 : wrap64 (16 * ma * ma + 72) = 16 * ma * ma + 72 := w_in (by omega) (by omega)
  have bnds := fun (X : List Sp) (h : Inv (4 * ma) n (arms a b c L (n * 3)) B X) => inv_bounds hF.z hF.e hO (by omega) (by omega) hn hBs h
  have stp := fun (X : List Sp) (h : Inv (4 * ma) n (arms a b c L (n * 3)) B X) => inv_step hF.z hF.e hO hm1.1 h
  rw [← hll] at bnds stp
  have d1 : ∀ (W : World) (X : List Sp) (gx k : Nat), Inv (4 * ma) n (arms a b c L L.length) B X → Hp W base g n vs (row (arms a b c L L.length)) → IBox W gx (fl X) → Calls Try.prog 55 #[.slice (some ⟨g, 0, none⟩) n gc, .int .i64 ma, .slice (some ⟨gx, 0, none⟩) n k] W fun e w' => GotV W.heap.size n (opL 1 ma n (arms a b c L L.length) X) e w' ∧ Below W.heap.size W w' := fun W X gx k hI h1 h2 => apply7_any a b c ma L base g n gc gx 0 k vs X W hF hm h1 h2.h hI.l
  have d2 : ∀ (W : World) (X : List Sp) (gy k : Nat), Inv (4 * ma) n (arms a b c L L.length) B X → LiesI W bb bo (fl B) → IBox W gy (fl (opL 1 ma n (arms a b c L L.length) X)) → Calls Try.prog 97 #[.slice (some ⟨bb, bo, none⟩) n bc, .slice (some ⟨gy, 0, none⟩) n k] W fun e w' => GotV W.heap.size n (lfL (4 * ma) n (arms a b c L L.length) B X) e w' ∧ Below W.heap.size W w' := fun W X gy k hI h1 h2 => by
    have hl : (opL 1 ma n (arms a b c L L.length) X).length = n := by rw [opL_E, tab_len]
    have := minus_any bb bo bc gy 0 k B _ W h1 h2.h (by omega) (by omega) (by omega)
    rw [hl, prog_left hn hBb (by decide) (bnds X hI).2.1 (by decide)] at this
    refine this.mono fun e w' ⟨⟨g, k, e1, e2, e3⟩, hw⟩ => ⟨⟨g, k, by rw [e1, lfL_len], e2, e3⟩, hw⟩
  have d3 : ∀ (W : World) (X : List Sp) (gy k : Nat), Inv (4 * ma) n (arms a b c L L.length) B X → Hp W base g n vs (row (arms a b c L L.length)) → IBox W gy (fl (lfL (4 * ma) n (arms a b c L L.length) B X)) → Calls Try.prog 99 #[.slice (some ⟨g, 0, none⟩) n gc, .int .i64 ma, .slice (some ⟨gy, 0, none⟩) n k] W fun e w' => GotV W.heap.size n (opT (-1) (4 * ma) n (arms a b c L L.length) (lfL (4 * ma) n (arms a b c L L.length) B X)) e w' ∧ Below W.heap.size W w' := fun W X gy k hI h1 h2 => by
    have := dagger7_any a b c ma L base g n gc gy 0 k vs _ W hF hm h1 h2.h (lfL_len _ _ _ _ _)
    rw [prog_op (bnds X hI).2.2.2 (by decide)] at this
    exact this
  have d4 : ∀ (W : World) (X : List Sp) (gy k : Nat), Inv (4 * ma) n (arms a b c L L.length) B X → IBox W gy (fl (opT (-1) (4 * ma) n (arms a b c L L.length) (lfL (4 * ma) n (arms a b c L L.length) B X))) → Calls Try.prog 98 #[.slice (some ⟨gy, 0, none⟩) n k, .int .i64 (16 * ma * ma + 72)] W fun e w' => GotV W.heap.size n (cor ma n (arms a b c L L.length) B X) e w' ∧ Below W.heap.size W w' := fun W X gy k hI h2 => by
    have hl : (opT (-1) (4 * ma) n (arms a b c L L.length) (lfL (4 * ma) n (arms a b c L L.length) B X)).length = n := opT_len _ _ _ _ _
    have := quotient_any (16 * ma * ma + 72) gy 0 k _ W h2.h (by omega) (by omega) hD (fun s hs => bd_le ((bnds X hI).2.2.2 s (by omega)) (by decide))
    rw [hl] at this
    refine this.mono fun e w' ⟨⟨g, k, e1, e2, e3⟩, hw⟩ => ⟨⟨g, k, by rw [e1, tab_len], e2, e3⟩, hw⟩
  have d5 : ∀ (W : World) (C : List Sp) (gy k : Nat) (r : Bool), C.length = n → inR 0 C r → IBox W gy (fl C) → Calls Try.prog 56 #[.slice (some ⟨gy, 0, none⟩) n k, .int .i64 0] W fun e w' => e = .returned (.bool r) ∧ Below W.heap.size W w' := fun W C gy k r hC hr h2 => by
    have := isWithin7_any 0 (some ⟨gy, 0, none⟩) C k W r (.inr ⟨gy, 0, rfl, h2.h⟩) (by decide) (by decide) (by omega) hr
    rw [hC] at this
    exact this
  have d6 : ∀ (W : World) (X : List Sp) (gx k : Nat), Inv (4 * ma) n (arms a b c L L.length) B X → IBox W gx (fl X) → Calls Try.prog 100 #[.slice (some ⟨gx, 0, none⟩) n k] W fun e w' => GotV W.heap.size n (rdL n X) e w' ∧ Below W.heap.size W w' := fun W X gx k hI h2 => by
    have hX := hI.l
    have := rounded_any gx 0 k X W h2.h (by omega) (by omega) (fun s hs => bd_le ((bnds X hI).2.2.1 s (by omega)) (by decide))
    rw [hX] at this
    refine this.mono fun e w' ⟨⟨g, k, e1, e2, e3⟩, hw⟩ => ⟨⟨g, k, by rw [e1, tab_len], e2, e3⟩, hw⟩
  have d7 : ∀ (W : World) (X : List Sp) (gx gy k j : Nat), Inv (4 * ma) n (arms a b c L L.length) B X → Inv (4 * ma) n (arms a b c L L.length) B (lnL n 1 1 X (cor ma n (arms a b c L L.length) B X)) → gy ≠ gx → IBox W gx (fl X) → IBox W gy (fl (cor ma n (arms a b c L L.length) B X)) → Calls Try.prog 96 #[.slice (some ⟨gx, 0, none⟩) n k, .int .i64 1, .slice (some ⟨gy, 0, none⟩) n j] W fun e w' => e = .returned (.tuple #[]) ∧ IBox w' gx (fl (lnL n 1 1 X (cor ma n (arms a b c L L.length) B X))) ∧ W.grownBy w' (some gx) := fun W X gx gy k j hI hI2 hne h1 h2 => by
    have hl : (cor ma n (arms a b c L L.length) B X).length = n := cor_len _ _ _ _ _
    have hX := hI.l
    have := addV_any 1 gx k (some ⟨gy, 0, none⟩) j X _ W h1 (.inr ⟨gy, 0, rfl, h2.h⟩) (fun b' o' h => by cases h; exact hne) (by omega) (by omega)
    rw [hl, prog_add hX (bnds _ hI2).2.2.1 (by decide)] at this
    exact this
  have hi0 : Inv (4 * ma) n (arms a b c L L.length) B (List.replicate n zs) := inv_start hn
  have cl : ∀ X, (cor ma n (arms a b c L L.length) B X).length = n := fun X => cor_len _ _ _ _ _
  have hgl := hH.lt
  have hbl := fl_lt hB (by omega)
  have HB := Lib.hid hB
  have HH := Lib.hid hH
  have HST := Lib.hid stp
  have HI0 := Lib.hid hi0
  have HCL := Lib.hid cl
  have hb0 : Below w.heap.size w (w.alloc (.cells (madeCells sz.toArray (n * 4)) 95)) := by repeat (first | (with_reducible exact Below.refl _ _) | (with_reducible refine Below.setCell ?_ ?_ _) | (with_reducible refine Below.drew ?_) | (with_reducible refine Below.alloc ?_ ?_ _) | omega | (simp <;> omega))
  have hA : IBox (w.alloc (.cells (madeCells sz.toArray (n * 4)) 95)) w.heap.size (fl (List.replicate n zs)) := IBox.madeS (T := 95) (heap_alloc_new _ _) (by simp)
  have HB0 := Lib.hid hb0
  have HA := Lib.hid hA
  clear hF hm hH hB hn hO hBs hBb bnds stp hi0 hb0 hA cl hpos hll hm1 mm ea hD
  generalize arms a b c L L.length = A at *
  go_enter Try.func58, Try.ntmps58
  go_wp2
  generalize w.alloc (.cells (madeCells sz.toArray (n * 4)) 95) = Wa at *
  go_loopw [7, 8] (fun _ _ wr => ∃ X : List Sp, Hid (Inv (4 * ma) n A B X) ∧ Hid (IBox wr w.heap.size (fl X)) ∧ Hid (Below w.heap.size w wr)) (fun _ _ wr => lefM ma n A B (memS wr w.heap.size n))
  case atStart => exact ⟨_, HI0, HA, HB0⟩
  case round =>
    obtain ⟨X, HI, HX, HW⟩ := hrel
    clear HA HB0 HI0
    have hmes := Lib.hid (memS_of HX.out HI.out.l)
    have hwr := HX.out.lt
    have z0 := HW.out.size
    go_wp2_with (fail)
    refine (d1 _ X _ _ HI.out (HH.out.later HW.out) HX.out).mono ?_
    rintro e w1 ⟨⟨g1, k1, rfl, hb1, hg1⟩, hw1⟩
    have X1 := Lib.hid (HX.out.later hw1)
    have W1 := Lib.hid (HW.out.trans (hw1.mono HW.out.size))
    have Y1 := Lib.hid hb1
    clear hb1 hw1 hg1
    go_wp2_with (fail)
    refine (d2 _ X _ _ HI.out (HB.out.later W1.out) Y1.out).mono ?_
    rintro e w2 ⟨⟨g2, k2, rfl, hb2, hg2⟩, hw2⟩
    have X2 := Lib.hid (X1.out.later hw2)
    have W2 := Lib.hid (W1.out.trans (hw2.mono W1.out.size))
    have Y2 := Lib.hid hb2
    clear hb2 hw2 hg2 X1 W1 Y1
    go_wp2_with (fail)
    refine (d3 _ X _ _ HI.out (HH.out.later W2.out) Y2.out).mono ?_
    rintro e w3 ⟨⟨g3, k3, rfl, hb3, hg3⟩, hw3⟩
    have X3 := Lib.hid (X2.out.later hw3)
    have W3 := Lib.hid (W2.out.trans (hw3.mono W2.out.size))
    have Y3 := Lib.hid hb3
    clear hb3 hw3 hg3 X2 W2 Y2
    go_wp2_with (fail)
    refine (d4 _ X _ _ HI.out Y3.out).mono ?_
    rintro e w4 ⟨⟨g4, k4, rfl, hb4, hg4⟩, hw4⟩
    have X4 := Lib.hid (X3.out.later hw4)
    have W4 := Lib.hid (W3.out.trans (hw4.mono W3.out.size))
    have Y4 := Lib.hid hb4
    have G4 := Lib.hid (show w.heap.size < g4 by have := X3.out.lt; omega)
    clear hb4 hw4 hg4 X3 W3 Y3
    rcases inR_zero (HCL.out X) with ⟨hr, hz⟩ | ⟨hr, hz⟩
    · go_wp2_with (fail)
      refine (d5 _ _ _ _ true (HCL.out X) hr Y4.out).mono ?_
      rintro e w5 ⟨rfl, hw5⟩
      have HZ := Lib.hid hz
      have X5 := Lib.hid (X4.out.later hw5)
      have W5 := Lib.hid (W4.out.trans (hw5.mono W4.out.size))
      clear hw5 X4 W4 Y4 hr hz
      go_wp2_with (fail)
      refine (d6 _ X _ _ HI.out X5.out).mono ?_
      rintro e w6 ⟨⟨g6, k6, rfl, hb6, hg6⟩, hw6⟩
      have W6 := Lib.hid (W5.out.trans (hw6.mono W5.out.size))
      have Y6 := Lib.hid hb6
      have G6 := Lib.hid (show w.heap.size ≤ g6 by have := X5.out.lt; omega)
      clear hb6 hw6 hg6 X5 W5
      go_wp2
      exact ⟨rfl, ⟨g6, k6, X, rfl, Y6.out.h, G6.out, HI.out, HZ.out⟩, W6.out⟩
    · obtain ⟨hI2, hlt⟩ := HST.out X HI.out hz
      have I2 := Lib.hid hI2
      have LT := Lib.hid hlt
      clear hI2 hlt
      go_wp2_with (fail)
      refine (d5 _ _ _ _ false (HCL.out X) hr Y4.out).mono ?_
      rintro e w5 ⟨rfl, hw5⟩
      have X5 := Lib.hid (X4.out.later hw5)
      have Y5 := Lib.hid (Y4.out.later hw5)
      have W5 := Lib.hid (W4.out.trans (hw5.mono W4.out.size))
      clear hw5 X4 W4 Y4 hr hz
      go_wp2_with (fail)
      refine (d7 _ X _ _ _ _ HI.out I2.out (by have := G4.out; omega) X5.out Y5.out).mono ?_
      rintro e w6 ⟨rfl, hb6, hw6⟩
      have X6 := Lib.hid hb6
      have W6 := Lib.hid (W5.out.grown hw6 W5.out.size (fun j hj => by cases hj; exact Nat.le_refl _))
      clear hb6 hw6 X5 Y5 W5
      go_wp2
      exact ⟨⟨_, I2, X6, W6⟩, by rw [hmes.out, memS_of X6.out (lnL_len _ _ _ _ _)]; exact LT.out⟩
end Go.Proofs.Ytojmagooapjohaa
