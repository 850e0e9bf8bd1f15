/- The product of two gauge transformations, as the document's answers make it.
Conditions: those written at each theorem. -/
import Derived.Test.YtegeamfacajeeaaGtC
import Derived.Test.YtegeamfacajeeaaGauC
namespace Go.Proofs.Ytegeamfacajeeaa
set_option linter.unusedVariables false
set_option linter.unusedSimpArgs false
set_option maxRecDepth 1000000
open Go.ChangeShapes Go.WideShapes Go.ChangeAt Go.RowKit
open Um Tm

set_option maxHeartbeats 800000 in
theorem refCo_bad1 (a b c r : Int) (ao go qo : Option Addr) (cap gc hc : Nat) (L G H : List Q) (w : World) (h : LiesO w ao L) (hg : LiesO w go G) (hr : gaR a b c L G r) (h0 : r ≠ 0) (hlen : L.length ≤ 1000000) (hlen2 : G.length ≤ 1000000) : Calls Try.prog 28 #[.agg #[.int .i64 a, .int .i64 b, .int .i64 c, .slice ao L.length cap], .slice go G.length gc, .slice qo H.length hc] w fun e w' => e = .returned (.tuple #[.slice none 0 0, .int .i64 r]) ∧ Below w.heap.size w w' := by
  have c1 := fun (W : World) (h : LiesO W ao L) (hg : LiesO W go G) => refGaV_any a b c r ao go cap gc L G W h hg hr hlen hlen2
  have h0' : (r != 0) = true := by simpa using h0
  have HL := Lib.hid h
  have HG := Lib.hid hg
  clear h hg hr h0
  go_enter Try.func28, Try.ntmps28
  go_wp2_with (fail)
  refine (c1 _ (HL.out.later (by repeat (first | (with_reducible exact Below.refl _ _) | (with_reducible refine Below.setCell ?_ ?_ _) | (with_reducible refine Below.drew ?_) | (with_reducible refine Below.alloc ?_ ?_ _) | omega | (simp <;> omega)))) (HG.out.later (by repeat (first | (with_reducible exact Below.refl _ _) | (with_reducible refine Below.setCell ?_ ?_ _) | (with_reducible refine Below.drew ?_) | (with_reducible refine Below.alloc ?_ ?_ _) | omega | (simp <;> omega))))).mono ?_
  rintro e w1 ⟨rfl, hw1⟩
  go_wp2
  go_ret2
  exact ⟨rfl, by repeat (first | (with_reducible exact Below.refl _ _) | (with_reducible refine Below.setCell ?_ ?_ _) | (with_reducible refine Below.drew ?_) | (with_reducible refine Below.alloc ?_ ?_ _) | (with_reducible refine Below.trans ?_ (Below.mono hw1 ?_)) | (with_reducible exact hw1.size) | omega | (simp <;> omega) | (simp <;> (have s := hw1.size; omega)) | (have s0 := hw1.size; (try simp at s0); (try simp); omega))⟩
set_option maxHeartbeats 800000 in
theorem refCo_bad2 (a b c r : Int) (ao go qo : Option Addr) (cap gc hc : Nat) (L G H : List Q) (w : World) (h : LiesO w ao L) (hg : LiesO w go G) (hq : LiesO w qo H) (hr : gaR a b c L G 0) (hr2 : gaR a b c L H r) (h0 : r ≠ 0) (hlen : L.length ≤ 1000000) (hlen2 : G.length ≤ 1000000) (hlen3 : H.length ≤ 1000000) : Calls Try.prog 28 #[.agg #[.int .i64 a, .int .i64 b, .int .i64 c, .slice ao L.length cap], .slice go G.length gc, .slice qo H.length hc] w fun e w' => e = .returned (.tuple #[.slice none 0 0, .int .i64 r]) ∧ Below w.heap.size w w' := by
  have c1 := fun (W : World) (h : LiesO W ao L) (hg : LiesO W go G) => refGaV_any a b c 0 ao go cap gc L G W h hg hr hlen hlen2
  have c2 := fun (W : World) (h : LiesO W ao L) (hg : LiesO W qo H) => refGaV_any a b c r ao qo cap hc L H W h hg hr2 hlen hlen3
  have h0' : (r != 0) = true := by simpa using h0
  have HL := Lib.hid h
  have HG := Lib.hid hg
  have HH := Lib.hid hq
  clear h hg hq hr hr2 h0
  go_enter Try.func28, Try.ntmps28
  have F0 := Lib.hid (FW.n1 (w := w) (x := a) (y := b) (z := c) (v := .slice ao L.length cap) (T := 25))
  go_wp2_with (fail)
  refine (c1 _ (HL.out.later (by repeat (first | (with_reducible exact Below.refl _ _) | (with_reducible refine Below.setCell ?_ ?_ _) | (with_reducible refine Below.drew ?_) | (with_reducible refine Below.alloc ?_ ?_ _) | omega | (simp <;> omega)))) (HG.out.later (by repeat (first | (with_reducible exact Below.refl _ _) | (with_reducible refine Below.setCell ?_ ?_ _) | (with_reducible refine Below.drew ?_) | (with_reducible refine Below.alloc ?_ ?_ _) | omega | (simp <;> omega))))).mono ?_
  rintro e w1 ⟨rfl, hw1⟩
  have b1 := bel1 hw1
  obtain ⟨f0, f1, f2, f3, ff, fl⟩ := F0.out.later hw1
  clear hw1 c1 F0
  go_wp2_with (fail)
  refine (c2 _ (HL.out.later b1) (HH.out.later b1)).mono ?_
  rintro e w2 ⟨rfl, hw2⟩
  go_wp2
  go_ret2
  exact ⟨rfl, b1.trans (hw2.mono b1.size)⟩
set_option maxHeartbeats 6400000 in
theorem refCo_ok (a b c : Int) (ao : Option Addr) (gl goff hl hoff cap gc hc : Nat) (L G H : List Q) (w : World) (h : LiesO w ao L) (hg : Lies w gl goff G) (hh : Lies w hl hoff H) (hr : gaR a b c L G 0) (hr2 : gaR a b c L H 0) (hlen : L.length ≤ 1000000) (hlen2 : G.length ≤ 100) (hpos : 0 < G.length) : Calls Try.prog 28 #[.agg #[.int .i64 a, .int .i64 b, .int .i64 c, .slice ao L.length cap], .slice (some ⟨gl, goff, none⟩) G.length gc, .slice (some ⟨hl, hoff, none⟩) H.length hc] w fun e w' => RetCo G.length (coL G H) e w' ∧ Below w.heap.size w w' := by
  have hG := gaR_Gg hr
  have hH := gaR_Gg hr2
  have hgn := hG.n
  have hhn := hH.n
  have ehn : H.length = G.length := by omega
  have c1 := fun (W : World) (h : LiesO W ao L) (hg : Lies W gl goff G) => refGaV_any a b c 0 ao (some ⟨gl, goff, none⟩) cap gc L G W h (.inr ⟨gl, goff, rfl, hg⟩) hr hlen (by omega)
  have c1' := fun (W : World) (h : LiesO W ao L) (hg : Lies W hl hoff H) => refGaV_any a b c 0 ao (some ⟨hl, hoff, none⟩) cap hc L H W h (.inr ⟨hl, hoff, rfl, hg⟩) hr2 hlen (by omega)
  have c2 : ∀ (k : Nat) (hk : k < G.length), ∃ x y r : Q, G[k]? = some x ∧ H[k]? = some y ∧ ((coL G H).take (k + 1)).flatMap uc = ((coL G H).take k).flatMap uc ++ uc r ∧ ∀ W : World, Calls Try.prog 26 #[.agg #[.int .i64 x.a, .int .i64 x.b, .int .i64 x.c, .int .i64 x.d, .int .i64 x.n], .agg #[.int .i64 y.a, .int .i64 y.b, .int .i64 y.c, .int .i64 y.d, .int .i64 y.n]] W fun e w' => e = .returned (.agg #[.int .i64 r.a, .int .i64 r.b, .int .i64 r.c, .int .i64 r.d, .int .i64 r.n]) ∧ Below W.heap.size W w' := fun k hk => by
    have vx := hG.v _ _ (lk_at hk)
    have vy := hH.v _ _ (lk_at (L := H) (i := k) (by omega))
    have hb := mul_bnd5 vx vy
    refine ⟨_, _, low (mul (lk G (k : Int)) (lk H (k : Int))), lk_at hk, lk_at (by omega), ?_, fun W => mul4_any _ _ W vx.1.u vy.1.u (by omega) (by omega)⟩
    rw [uc_take (by rw [coL_len]; exact hk)]
    have := coL_get (H := H) hk
    rw [(List.getElem?_eq_some_iff.1 this).2]
  have c3 := fun (B cc : Nat) (W : World) (h : Lies W B 0 (coL G H)) => refLimited_any B 0 cc (coL G H) W h (by rw [coL_len]; omega)
  rw [coL_len] at c3
  obtain ⟨i0, hi, hz0, hz1, hz2⟩ := info_parts infoU
  have HL := Lib.hid h
  have HG := Lib.hid hg
  have HH := Lib.hid hh
  have HC := Lib.hid c2
  have hl2 : G.length ≤ maxLen := by unfold maxLen; omega
  have hl3 : i0.bytes * G.length ≤ 281474976710656 := by rw [hz2]; omega
  have HP := Lib.hid hpos
  have H0 := Lib.hid (show ((coL G H).take 0).flatMap uc = [] by rw [List.take_zero]; rfl)
  have HF := Lib.hid (show (coL G H).take G.length = coL G H from List.take_of_length_le (by rw [coL_len]; omega))
  have HM := Lib.hid (show G.length = (coL G H).length by rw [coL_len])
  clear h hg hh hr hr2 c2 hG hH hpos hgn hhn
  rw [ehn] at *
  generalize coL G H = M at *
  go_enter Try.func28, Try.ntmps28
  have F0 := Lib.hid (FW.n1 (w := w) (x := a) (y := b) (z := c) (v := .slice ao L.length cap) (T := 25))
  go_wp2_with (fail)
  refine (c1 _ (HL.out.later (by repeat (first | (with_reducible exact Below.refl _ _) | (with_reducible refine Below.setCell ?_ ?_ _) | (with_reducible refine Below.drew ?_) | (with_reducible refine Below.alloc ?_ ?_ _) | omega | (simp <;> omega)))) (HG.out.later (by repeat (first | (with_reducible exact Below.refl _ _) | (with_reducible refine Below.setCell ?_ ?_ _) | (with_reducible refine Below.drew ?_) | (with_reducible refine Below.alloc ?_ ?_ _) | omega | (simp <;> omega))))).mono ?_
  rintro e w0 ⟨rfl, hw0⟩
  have b0 := bel1 hw0
  obtain ⟨f0, f1, f2, f3, ff, fl⟩ := F0.out.later hw0
  clear hw0 c1 F0
  go_wp2_with (fail)
  refine (c1' _ (HL.out.later b0) (HH.out.later b0)).mono ?_
  rintro e w1 ⟨rfl, hw1⟩
  have b1 := b0.trans (hw1.mono b0.size)
  clear c1' hw1 b0 f0 f1 f2 f3 ff fl
  have s1 := b1.size
  go_wp2
  go_loopw [9, 10] (fun f q wr => ∃ (k : Nat) (v : Value), k ≤ G.length ∧ q = .int .i64 k ∧ v = f ∧ Hid (wr.ownsRow w.heap.size 34 5 v k ((M.take k).flatMap uc)) ∧ Below w.heap.size w wr) (fun _ q _ => G.length - (intOf q).toNat)
  case atStart => exact ⟨0, _, by omega, rfl, rfl, Lib.hid (by rw [H0.out]; exact World.ownsRow_nil _ _ _ _), b1⟩
  case round =>
    obtain ⟨k, v, hk, rfl, rfl, hown, hb⟩ := hrel
    clear b1 s1
    have hbs := hb.size
    obtain ⟨ao', cp, rfl⟩ := owned5_form hown.out
    by_cases hlt : k < G.length
    · obtain ⟨x, y, r, hx, hy, q1, cM⟩ := HC.out k hlt
      obtain ⟨n0, n1, n2, n3, n4⟩ := HG.out.later hb k _ hx
      obtain ⟨m0, m1, m2, m3, m4⟩ := HH.out.later hb k _ hy
      have lb1 : gl < wr.heap.size := World.block_lt_of_cell? _ _ n0
      have lb2 : hl < wr.heap.size := World.block_lt_of_cell? _ _ m0
      have ik : (k : Int) < (G.length : Int) := by omega
      have Q1 := Lib.hid q1
      clear hx hy q1
      go_wp2
      apply Made.region_one 10 (.cells (uc r).toArray 34) (fun g => .slice (some ⟨g, 0, none⟩) 1 1) (some 39) (by kernel_rfl) (by kernel_rfl) (by kernel_rfl)
      · intro B hB
        have kc := @Tail.cell_re
        have hcB := Tail.cells hB
        have zB2 := Nat.lt_of_lt_of_le lb1 hB.size
        have zB3 := Nat.lt_of_lt_of_le lb2 hB.size
        simp only [List.take_succ_cons, List.take_zero]
        repeat (go_big_quiet_step (with_reducible exact Calls.regrown_of (cM _)))
        exact wpQuiet_nil rfl
      · refine ⟨_, rfl, rfl, fun W => ⟨rfl, ?_⟩⟩
        simp [execOp, go_sem, uc]
      intro g4 w4 hg4 hw4 hx4
      show wpList _ _ _ (List.drop 11 _) _ _
      simp only [List.drop_succ_cons, List.drop_zero]
      have x0 := Wide.cell_at hx4 0 _ rfl
      have x1 := Wide.cell_at hx4 1 _ rfl
      have x2 := Wide.cell_at hx4 2 _ rfl
      have x3 := Wide.cell_at hx4 3 _ rfl
      have x4 := Wide.cell_at hx4 4 _ rfl
      have OO := Lib.hid (owned_later hown.out hw4)
      have b4 := hb.trans (hw4.mono hbs)
      have hs4 := hw4.size
      clear n0 n1 n2 n3 n4 m0 m1 m2 m3 m4 lb1 lb2 hx4 cM hown
      obtain ⟨CS, hCS⟩ : ∃ CS, CS = (M.take k).flatMap uc := ⟨_, rfl⟩
      rw [← hCS] at OO
      have HCS := Lib.hid hCS
      clear hCS
      go_wp2_with (at_builtin; refine wpList_append_own _ rfl (.tmp 29) (.tmp 39) 23 rfl w.heap.size 34 i0 _ 5 40 Try.underlying23 hi hz0 hz1 hz2 rfl (by decide) (.slice ao' k cp) k CS rfl OO.out ⟨g4, 0, none⟩ 1 1 (uc r) rfl rfl (five_cells rfl x0 x1 x2 x3 x4) (five_one rfl) (by unfold maxLen; omega) (by omega) (by omega) ?_; intro v5 w5 hown5 hgrow5 _; obtain ⟨g5, c5, rfl, hg5⟩ := owned5_some hown5 (by omega))
      rw [HCS.out, ← Q1.out] at hown5
      have hfr := owned_from OO.out
      have hb5 := b4.grown hgrow5 (by have := b4.size; omega) (fun j hj => by have := hfr j hj; omega)
      have ho := Lib.hid hown5
      clear hown5 hgrow5 hw4 OO HCS x0 x1 x2 x3 x4
      go_wp2
      exact ⟨⟨k + 1, _, by omega, by go_num, rfl, ho, hb5⟩, by simp [intOf]; omega⟩
    · obtain rfl : k = G.length := by omega
      have ho := hown.out
      rw [HF.out] at ho
      obtain ⟨g, kc, hgk, hgb⟩ := owned5_some ho HP.out
      simp only [Value.slice.injEq, true_and] at hgk
      obtain ⟨rfl, rfl⟩ := hgk
      obtain ⟨LB, hgb2⟩ := owned_LBox HM.out ho
      have HLB := Lib.hid LB
      clear hown ho LB
      go_wp2_with (fail)
      refine (c3 g _ _ HLB.out.h).mono ?_
      rintro e w5 ⟨(⟨hlim, rfl⟩ | ⟨hlim, rfl⟩), hw5⟩
      · go_wp2
        go_ret2
        exact ⟨.inl ⟨hlim, g, _, rfl, HLB.out.later hw5⟩, hb.trans (hw5.mono hbs)⟩
      · go_wp2
        go_ret2
        exact ⟨.inr ⟨hlim, rfl⟩, hb.trans (hw5.mono hbs)⟩
end Go.Proofs.Ytegeamfacajeeaa
