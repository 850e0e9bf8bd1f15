/- The product of two gauge transformations, as the program makes it.
Conditions: those written at each theorem. -/
import Derived.Test.YtegeamfacajeeaaGuM
import Derived.Test.YtegeamfacajeeaaGauC
import Derived.Deep.RegionHeld3
namespace Go.Proofs.Ytegeamfacajeeaa
set_option linter.unusedVariables false
set_option linter.unusedSimpArgs false
set_option maxRecDepth 1000000
open Go.RowKit
open Um Tm

/-- a list of units, if it is not too great -/
def RetCo (n : Nat) (T : List Q) (e : Ending) (w' : World) : Prop := (Lim T ∧ ∃ g k : Nat, e = .returned (.tuple #[.slice (some ⟨g, 0, none⟩) n k, .int .i64 0]) ∧ LBox w' g T) ∨ (¬ Lim T ∧ e = .returned (.tuple #[.slice none 0 0, .int .i64 3]))
set_option maxHeartbeats 800000 in
theorem gaCo_bad1 (a b c r : Int) (ao go qo : Option Addr) (cap gc hc : Nat) (L G H : List Q) (w : World) (h : LiesO w ao L) (hg : LiesO w go G) (hr : gaR a b c L G r) (h0 : r ≠ 0) (hlen : L.length ≤ 1000000) (hlen2 : G.length ≤ 1000000) : Calls Try.prog 27 #[.agg #[.int .i64 a, .int .i64 b, .int .i64 c, .slice ao L.length cap], .slice go G.length gc, .slice qo H.length hc] w fun e w' => e = .returned (.tuple #[.slice none 0 0, .int .i64 r]) ∧ Below w.heap.size w w' := by
  have c1 := fun (W : World) (h : LiesO W ao L) (hg : LiesO W go G) => gaV_any a b c r ao go cap gc L G W h hg hr hlen hlen2
  have h0' : (r != 0) = true := by simpa using h0
  have HL := Lib.hid h
  have HG := Lib.hid hg
  clear h hg hr h0
  go_enter Try.func27, Try.ntmps27
  go_wp2_with (fail)
  refine (c1 _ (HL.out.later (by repeat (first | (with_reducible exact Below.refl _ _) | (with_reducible refine Below.setCell ?_ ?_ _) | (with_reducible refine Below.drew ?_) | (with_reducible refine Below.alloc ?_ ?_ _) | omega | (simp <;> omega)))) (HG.out.later (by repeat (first | (with_reducible exact Below.refl _ _) | (with_reducible refine Below.setCell ?_ ?_ _) | (with_reducible refine Below.drew ?_) | (with_reducible refine Below.alloc ?_ ?_ _) | omega | (simp <;> omega))))).mono ?_
  rintro e w1 ⟨rfl, hw1⟩
  go_wp2
  go_ret2
  exact ⟨rfl, by repeat (first | (with_reducible exact Below.refl _ _) | (with_reducible refine Below.setCell ?_ ?_ _) | (with_reducible refine Below.drew ?_) | (with_reducible refine Below.alloc ?_ ?_ _) | (with_reducible refine Below.trans ?_ (Below.mono hw1 ?_)) | (with_reducible exact hw1.size) | omega | (simp <;> omega) | (simp <;> (have s := hw1.size; omega)) | (have s0 := hw1.size; (try simp at s0); (try simp); omega))⟩
set_option maxHeartbeats 800000 in
theorem gaCo_bad2 (a b c r : Int) (ao go qo : Option Addr) (cap gc hc : Nat) (L G H : List Q) (w : World) (h : LiesO w ao L) (hg : LiesO w go G) (hq : LiesO w qo H) (hr : gaR a b c L G 0) (hr2 : gaR a b c L H r) (h0 : r ≠ 0) (hlen : L.length ≤ 1000000) (hlen2 : G.length ≤ 1000000) (hlen3 : H.length ≤ 1000000) : Calls Try.prog 27 #[.agg #[.int .i64 a, .int .i64 b, .int .i64 c, .slice ao L.length cap], .slice go G.length gc, .slice qo H.length hc] w fun e w' => e = .returned (.tuple #[.slice none 0 0, .int .i64 r]) ∧ Below w.heap.size w w' := by
  have c1 := fun (W : World) (h : LiesO W ao L) (hg : LiesO W go G) => gaV_any a b c 0 ao go cap gc L G W h hg hr hlen hlen2
  have c2 := fun (W : World) (h : LiesO W ao L) (hg : LiesO W qo H) => gaV_any a b c r ao qo cap hc L H W h hg hr2 hlen hlen3
  have h0' : (r != 0) = true := by simpa using h0
  have HL := Lib.hid h
  have HG := Lib.hid hg
  have HH := Lib.hid hq
  clear h hg hq hr hr2 h0
  go_enter Try.func27, Try.ntmps27
  have F0 := Lib.hid (FW.n1 (w := w) (x := a) (y := b) (z := c) (v := .slice ao L.length cap) (T := 25))
  go_wp2_with (fail)
  refine (c1 _ (HL.out.later (by repeat (first | (with_reducible exact Below.refl _ _) | (with_reducible refine Below.setCell ?_ ?_ _) | (with_reducible refine Below.drew ?_) | (with_reducible refine Below.alloc ?_ ?_ _) | omega | (simp <;> omega)))) (HG.out.later (by repeat (first | (with_reducible exact Below.refl _ _) | (with_reducible refine Below.setCell ?_ ?_ _) | (with_reducible refine Below.drew ?_) | (with_reducible refine Below.alloc ?_ ?_ _) | omega | (simp <;> omega))))).mono ?_
  rintro e w1 ⟨rfl, hw1⟩
  have b1 := bel1 hw1
  obtain ⟨f0, f1, f2, f3, ff, fl⟩ := F0.out.later hw1
  clear hw1 c1 F0
  go_wp2_with (fail)
  refine (c2 _ (HL.out.later b1) (HH.out.later b1)).mono ?_
  rintro e w2 ⟨rfl, hw2⟩
  go_wp2
  go_ret2
  exact ⟨rfl, b1.trans (hw2.mono b1.size)⟩
set_option maxHeartbeats 6400000 in
theorem gaCo_ok (a b c : Int) (ao : Option Addr) (gl goff hl hoff cap gc hc : Nat) (L G H : List Q) (w : World) (h : LiesO w ao L) (hg : Lies w gl goff G) (hh : Lies w hl hoff H) (hr : gaR a b c L G 0) (hr2 : gaR a b c L H 0) (hlen : L.length ≤ 1000000) (hlen2 : G.length ≤ 100) (hpos : 0 < G.length) : Calls Try.prog 27 #[.agg #[.int .i64 a, .int .i64 b, .int .i64 c, .slice ao L.length cap], .slice (some ⟨gl, goff, none⟩) G.length gc, .slice (some ⟨hl, hoff, none⟩) H.length hc] w fun e w' => RetCo G.length (coL G H) e w' ∧ Below w.heap.size w w' := by
  have hG := gaR_Gg hr
  have hH := gaR_Gg hr2
  have hgn := hG.n
  have hhn := hH.n
  have ehn : H.length = G.length := by omega
  have c1 := fun (W : World) (h : LiesO W ao L) (hg : Lies W gl goff G) => gaV_any a b c 0 ao (some ⟨gl, goff, none⟩) cap gc L G W h (.inr ⟨gl, goff, rfl, hg⟩) hr hlen (by omega)
  have c1' := fun (W : World) (h : LiesO W ao L) (hg : Lies W hl hoff H) => gaV_any a b c 0 ao (some ⟨hl, hoff, none⟩) cap hc L H W h (.inr ⟨hl, hoff, rfl, hg⟩) hr2 hlen (by omega)
  have c2 : ∀ (k : Nat) (hk : k < G.length), ∃ x y r : Q, G[k]? = some x ∧ H[k]? = some y ∧ ((coL G H).take (k + 1)).flatMap uc = ((coL G H).take k).flatMap uc ++ uc r ∧ ∀ W : World, Calls Try.prog 63 #[.agg #[.int .i64 x.a, .int .i64 x.b, .int .i64 x.c, .int .i64 x.d, .int .i64 x.n], .agg #[.int .i64 y.a, .int .i64 y.b, .int .i64 y.c, .int .i64 y.d, .int .i64 y.n]] W fun e w' => e = .returned (.tuple #[.agg #[.int .i64 r.a, .int .i64 r.b, .int .i64 r.c, .int .i64 r.d, .int .i64 r.n], .int .i64 0]) ∧ Below W.heap.size W w' := fun k hk => by
    have vx := hG.v _ _ (lk_at hk)
    have vy := hH.v _ _ (lk_at (L := H) (i := k) (by omega))
    have hb := mul_bnd5 vx vy
    refine ⟨_, _, low (mul (lk G (k : Int)) (lk H (k : Int))), lk_at hk, lk_at (by omega), ?_, fun W => mul_good _ _ _ 0 W vx.1 vy.1 (.inl ⟨by have := low_le _ hb.1.pos; omega, rfl, rfl⟩)⟩
    rw [uc_take (by rw [coL_len]; exact hk)]
    have := coL_get (H := H) hk
    rw [(List.getElem?_eq_some_iff.1 this).2]
  have c3 := fun (B cc : Nat) (W : World) (h : Lies W B 0 (coL G H)) => limited_any B 0 cc (coL G H) W h (by rw [coL_len]; omega)
  rw [coL_len] at c3
  obtain ⟨i0, hi, hz0, hz1, hz2⟩ := info_parts infoU
  have HL := Lib.hid h
  have HG := Lib.hid hg
  have HH := Lib.hid hh
  have HC := Lib.hid c2
  have hl2 : G.length ≤ maxLen := by unfold maxLen; omega
  have hl3 : i0.bytes * G.length ≤ 281474976710656 := by rw [hz2]; omega
  have HP := Lib.hid hpos
  have H0 := Lib.hid (show ((coL G H).take 0).flatMap uc = [] by rw [List.take_zero]; rfl)
  have HF := Lib.hid (show (coL G H).take G.length = coL G H from List.take_of_length_le (by rw [coL_len]; omega))
  have HM := Lib.hid (show G.length = (coL G H).length by rw [coL_len])
  clear h hg hh hr hr2 c2 hG hH hpos hgn hhn
  rw [ehn] at *
  generalize coL G H = M at *
  go_enter Try.func27, Try.ntmps27
  have F0 := Lib.hid (FW.n1 (w := w) (x := a) (y := b) (z := c) (v := .slice ao L.length cap) (T := 25))
  go_wp2_with (fail)
  refine (c1 _ (HL.out.later (by repeat (first | (with_reducible exact Below.refl _ _) | (with_reducible refine Below.setCell ?_ ?_ _) | (with_reducible refine Below.drew ?_) | (with_reducible refine Below.alloc ?_ ?_ _) | omega | (simp <;> omega)))) (HG.out.later (by repeat (first | (with_reducible exact Below.refl _ _) | (with_reducible refine Below.setCell ?_ ?_ _) | (with_reducible refine Below.drew ?_) | (with_reducible refine Below.alloc ?_ ?_ _) | omega | (simp <;> omega))))).mono ?_
  rintro e w0 ⟨rfl, hw0⟩
  have b0 := bel1 hw0
  obtain ⟨f0, f1, f2, f3, ff, fl⟩ := F0.out.later hw0
  clear hw0 c1 F0
  go_wp2_with (fail)
  refine (c1' _ (HL.out.later b0) (HH.out.later b0)).mono ?_
  rintro e w1 ⟨rfl, hw1⟩
  have b1 := b0.trans (hw1.mono b0.size)
  clear c1' hw1 b0 f0 f1 f2 f3 ff fl
  go_wp2_with (at_make; refine wpList_make_own _ rfl _ _ 23 rfl w1.heap.size 34 i0 _ 5 Try.underlying23 hi hz0 hz1 _ _ _ G.length rfl rfl rfl hl3 hl2 (Nat.le_refl _) ?_; intro w2 hown hgrow)
  have b2 : Below w1.heap.size w1 w2 := (Below.refl _ _).grown hgrow (by omega) (by simp)
  have s2 : w1.heap.size + 1 ≤ w2.heap.size := by
    have := (hown.lt w1.heap.size rfl).2
    omega
  have b3 : Below w.heap.size w w2 := b1.trans (b2.mono b1.size)
  have s1 := b1.size
  clear hgrow b1 b2
  generalize w1.heap.size = B at *
  go_loopw [10, 11, 12, 13, 31] (fun f _ _ _ q wr => ∃ k : Nat, k ≤ G.length ∧ q = .int .i64 k ∧ f = .slice (some ⟨B, 0, none⟩) k G.length ∧ Hid (wr.ownsRow B 34 5 (.slice (some ⟨B, 0, none⟩) k G.length) k ((M.take k).flatMap uc)) ∧ Below w.heap.size w wr ∧ B + 1 ≤ wr.heap.size) (fun _ _ _ _ q _ => G.length - (intOf q).toNat)
  case atStart => exact ⟨0, by omega, rfl, rfl, Lib.hid (by rw [H0.out]; exact hown), b3, s2⟩
  case round =>
    obtain ⟨k, hk, rfl, rfl, hown, hb, hgs⟩ := hrel
    clear b3 s2
    have hbs := hb.size
    by_cases hlt : k < G.length
    · obtain ⟨x, y, r, hx, hy, q1, cM⟩ := HC.out k hlt
      obtain ⟨n0, n1, n2, n3, n4⟩ := HG.out.later hb k _ hx
      obtain ⟨m0, m1, m2, m3, m4⟩ := HH.out.later hb k _ hy
      have lb1 : gl < wr.heap.size := World.block_lt_of_cell? _ _ n0
      have lb2 : hl < wr.heap.size := World.block_lt_of_cell? _ _ m0
      have ik : (k : Int) < (G.length : Int) := by omega
      have Q1 := Lib.hid q1
      have K5 : Hid (∀ w' : World, Below wr.heap.size wr w' → (w'.cell? ⟨gl, goff + k * 5, none⟩ = some (.int .i64 x.a) ∧ w'.cell? ⟨gl, goff + k * 5 + 1, none⟩ = some (.int .i64 x.b) ∧ w'.cell? ⟨gl, goff + k * 5 + 2, none⟩ = some (.int .i64 x.c) ∧ w'.cell? ⟨gl, goff + k * 5 + 3, none⟩ = some (.int .i64 x.d) ∧ w'.cell? ⟨gl, goff + k * 5 + 4, none⟩ = some (.int .i64 x.n) ∧ w'.cell? ⟨hl, hoff + k * 5, none⟩ = some (.int .i64 y.a) ∧ w'.cell? ⟨hl, hoff + k * 5 + 1, none⟩ = some (.int .i64 y.b) ∧ w'.cell? ⟨hl, hoff + k * 5 + 2, none⟩ = some (.int .i64 y.c) ∧ w'.cell? ⟨hl, hoff + k * 5 + 3, none⟩ = some (.int .i64 y.d) ∧ w'.cell? ⟨hl, hoff + k * 5 + 4, none⟩ = some (.int .i64 y.n))) := Lib.hid (fun w' h => ⟨held_belowG h n0, held_belowG h n1, held_belowG h n2, held_belowG h n3, held_belowG h n4, held_belowG h m0, held_belowG h m1, held_belowG h m2, held_belowG h m3, held_belowG h m4⟩)
      have K6 : Hid (∀ w' : World, Below wr.heap.size wr w' → ((((((w'.setCell ⟨wr.heap.size, 0, none⟩ (.int .i64 r.a)).setCell ⟨wr.heap.size, 1, none⟩ (.int .i64 r.b)).setCell ⟨wr.heap.size, 2, none⟩ (.int .i64 r.c)).setCell ⟨wr.heap.size, 3, none⟩ (.int .i64 r.d)).setCell ⟨wr.heap.size, 4, none⟩ (.int .i64 r.n)).cell? ⟨gl, goff + k * 5, none⟩ = some (.int .i64 x.a) ∧ (((((w'.setCell ⟨wr.heap.size, 0, none⟩ (.int .i64 r.a)).setCell ⟨wr.heap.size, 1, none⟩ (.int .i64 r.b)).setCell ⟨wr.heap.size, 2, none⟩ (.int .i64 r.c)).setCell ⟨wr.heap.size, 3, none⟩ (.int .i64 r.d)).setCell ⟨wr.heap.size, 4, none⟩ (.int .i64 r.n)).cell? ⟨gl, goff + k * 5 + 1, none⟩ = some (.int .i64 x.b) ∧ (((((w'.setCell ⟨wr.heap.size, 0, none⟩ (.int .i64 r.a)).setCell ⟨wr.heap.size, 1, none⟩ (.int .i64 r.b)).setCell ⟨wr.heap.size, 2, none⟩ (.int .i64 r.c)).setCell ⟨wr.heap.size, 3, none⟩ (.int .i64 r.d)).setCell ⟨wr.heap.size, 4, none⟩ (.int .i64 r.n)).cell? ⟨gl, goff + k * 5 + 2, none⟩ = some (.int .i64 x.c) ∧ (((((w'.setCell ⟨wr.heap.size, 0, none⟩ (.int .i64 r.a)).setCell ⟨wr.heap.size, 1, none⟩ (.int .i64 r.b)).setCell ⟨wr.heap.size, 2, none⟩ (.int .i64 r.c)).setCell ⟨wr.heap.size, 3, none⟩ (.int .i64 r.d)).setCell ⟨wr.heap.size, 4, none⟩ (.int .i64 r.n)).cell? ⟨gl, goff + k * 5 + 3, none⟩ = some (.int .i64 x.d) ∧ (((((w'.setCell ⟨wr.heap.size, 0, none⟩ (.int .i64 r.a)).setCell ⟨wr.heap.size, 1, none⟩ (.int .i64 r.b)).setCell ⟨wr.heap.size, 2, none⟩ (.int .i64 r.c)).setCell ⟨wr.heap.size, 3, none⟩ (.int .i64 r.d)).setCell ⟨wr.heap.size, 4, none⟩ (.int .i64 r.n)).cell? ⟨gl, goff + k * 5 + 4, none⟩ = some (.int .i64 x.n) ∧ (((((w'.setCell ⟨wr.heap.size, 0, none⟩ (.int .i64 r.a)).setCell ⟨wr.heap.size, 1, none⟩ (.int .i64 r.b)).setCell ⟨wr.heap.size, 2, none⟩ (.int .i64 r.c)).setCell ⟨wr.heap.size, 3, none⟩ (.int .i64 r.d)).setCell ⟨wr.heap.size, 4, none⟩ (.int .i64 r.n)).cell? ⟨hl, hoff + k * 5, none⟩ = some (.int .i64 y.a) ∧ (((((w'.setCell ⟨wr.heap.size, 0, none⟩ (.int .i64 r.a)).setCell ⟨wr.heap.size, 1, none⟩ (.int .i64 r.b)).setCell ⟨wr.heap.size, 2, none⟩ (.int .i64 r.c)).setCell ⟨wr.heap.size, 3, none⟩ (.int .i64 r.d)).setCell ⟨wr.heap.size, 4, none⟩ (.int .i64 r.n)).cell? ⟨hl, hoff + k * 5 + 1, none⟩ = some (.int .i64 y.b) ∧ (((((w'.setCell ⟨wr.heap.size, 0, none⟩ (.int .i64 r.a)).setCell ⟨wr.heap.size, 1, none⟩ (.int .i64 r.b)).setCell ⟨wr.heap.size, 2, none⟩ (.int .i64 r.c)).setCell ⟨wr.heap.size, 3, none⟩ (.int .i64 r.d)).setCell ⟨wr.heap.size, 4, none⟩ (.int .i64 r.n)).cell? ⟨hl, hoff + k * 5 + 2, none⟩ = some (.int .i64 y.c) ∧ (((((w'.setCell ⟨wr.heap.size, 0, none⟩ (.int .i64 r.a)).setCell ⟨wr.heap.size, 1, none⟩ (.int .i64 r.b)).setCell ⟨wr.heap.size, 2, none⟩ (.int .i64 r.c)).setCell ⟨wr.heap.size, 3, none⟩ (.int .i64 r.d)).setCell ⟨wr.heap.size, 4, none⟩ (.int .i64 r.n)).cell? ⟨hl, hoff + k * 5 + 3, none⟩ = some (.int .i64 y.d) ∧ (((((w'.setCell ⟨wr.heap.size, 0, none⟩ (.int .i64 r.a)).setCell ⟨wr.heap.size, 1, none⟩ (.int .i64 r.b)).setCell ⟨wr.heap.size, 2, none⟩ (.int .i64 r.c)).setCell ⟨wr.heap.size, 3, none⟩ (.int .i64 r.d)).setCell ⟨wr.heap.size, 4, none⟩ (.int .i64 r.n)).cell? ⟨hl, hoff + k * 5 + 4, none⟩ = some (.int .i64 y.n))) := Lib.hid (fun w' h => K5.out _ (h.grown (grown_setCells wr.heap.size (uc r) 0 w') h.size (fun j e => by cases e; exact Nat.le_refl _)))
      have Z0 : LBox (wr.alloc (.cells #[.int .i64 0, .int .i64 0, .int .i64 0, .int .i64 0, .int .i64 0] 34)) wr.heap.size [zero] := ⟨fun i u hu => by
        match i, hu with
        | 0, hu => simp at hu; subst hu; exact ⟨by simp [go_sem, zero], by simp [go_sem, zero], by simp [go_sem, zero], by simp [go_sem, zero], by simp [go_sem, zero]⟩
        | n + 1, hu => simp at hu, fun j => by simp [go_sem], by simp⟩
      have HZ0 := Lib.hid Z0
      clear hx hy q1 Z0
      go_wp2_with (fail)
      go_region_held3 (fun w' => w'.cell? ⟨gl, goff + k * 5, none⟩ = some (.int .i64 x.a) ∧ w'.cell? ⟨gl, goff + k * 5 + 1, none⟩ = some (.int .i64 x.b) ∧ w'.cell? ⟨gl, goff + k * 5 + 2, none⟩ = some (.int .i64 x.c) ∧ w'.cell? ⟨gl, goff + k * 5 + 3, none⟩ = some (.int .i64 x.d) ∧ w'.cell? ⟨gl, goff + k * 5 + 4, none⟩ = some (.int .i64 x.n) ∧ w'.cell? ⟨hl, hoff + k * 5, none⟩ = some (.int .i64 y.a) ∧ w'.cell? ⟨hl, hoff + k * 5 + 1, none⟩ = some (.int .i64 y.b) ∧ w'.cell? ⟨hl, hoff + k * 5 + 2, none⟩ = some (.int .i64 y.c) ∧ w'.cell? ⟨hl, hoff + k * 5 + 3, none⟩ = some (.int .i64 y.d) ∧ w'.cell? ⟨hl, hoff + k * 5 + 4, none⟩ = some (.int .i64 y.n))
        (first
          | (with_reducible exact K5.out _ B4)
          | (with_reducible exact K5.out _ (B4.alloc B4.size _))
          | (with_reducible exact K6.out _ B4)
          | (with_reducible exact K5.out _ (Below.refl _ _))
          | go_keep)
        (first
          | ((with_reducible refine (cM _).mono ?_); rintro e w4 ⟨rfl, hw4⟩; have Z4 := Lib.hid (HZ0.out.later (belDG hw4)); have B4 := bel1 (belDG hw4); obtain ⟨⟨z0, z1, z2, z3, z4⟩, zf, zl⟩ := one_boxI Z4.out)
          | ((with_reducible refine (cM _).mono ?_); rintro e w4 ⟨rfl, hw4⟩; have B4 := belDG hw4))
      · rename_i hheld
        clear hheld
        have LY : LBox (w4.alloc (.cells #[.int .i64 r.a, .int .i64 r.b, .int .i64 r.c, .int .i64 r.d, .int .i64 r.n] 34)) w4.heap.size [r] := ⟨fun i u hu => by
          match i, hu with
          | 0, hu => simp at hu; subst hu; exact ⟨by simp [go_sem], by simp [go_sem], by simp [go_sem], by simp [go_sem], by simp [go_sem]⟩
          | n + 1, hu => simp at hu, fun j => by simp [go_sem], by simp⟩
        have B0 : Below wr.heap.size wr (w4.alloc (.cells #[.int .i64 r.a, .int .i64 r.b, .int .i64 r.c, .int .i64 r.d, .int .i64 r.n] 34)) := B4.alloc B4.size _
        have HOY := Lib.hid (owned_later hown.out B0)
        have BY := Lib.hid (hb.trans (B0.mono hbs))
        have sY : B + 1 ≤ (w4.alloc (.cells #[.int .i64 r.a, .int .i64 r.b, .int .i64 r.c, .int .i64 r.d, .int .i64 r.n] 34)).heap.size := Nat.le_trans hgs B0.size
        have HLY := Lib.hid LY
        clear LY B0 hw4 hown B4 K5 K6 n0 n1 n2 n3 n4 m0 m1 m2 m3 m4 HZ0
        generalize w4.alloc (.cells #[.int .i64 r.a, .int .i64 r.b, .int .i64 r.c, .int .i64 r.d, .int .i64 r.n] 34) = Y at *
        generalize w4.heap.size = P at *
        obtain ⟨⟨y0, y1, y2, y3, y4⟩, yf, yl⟩ := one_boxI HLY.out
        go_wp2_with (at_builtin; refine wpList_append_fits _ rfl (.tmp 49) (.tmp 51) 23 rfl B 34 i0 5 Try.underlying23 hi hz1 B k G.length ((M.take k).flatMap uc) rfl (HOY.out.alloc _) ⟨Y.heap.size, 0, none⟩ 1 1 (uc r) rfl rfl (five_cells rfl (by simp [go_sem]) (by simp [go_sem]) (by simp [go_sem]) (by simp [go_sem]) (by simp [go_sem])) (five_one rfl) (by omega) ?_; intro w5 hown5 hgrow5)
        have bYs := BY.out.size
        have hb5 : Below w.heap.size w w5 := Below.grown (BY.out.trans (ba1.mono bYs)) hgrow5 (by simp; omega) (fun j hj => by simp at hj; omega)
        have ho : w5.ownsRow B 34 5 (.slice (some ⟨B, 0, none⟩) (k + 1) G.length) (k + 1) ((M.take (k + 1)).flatMap uc) := by rw [Q1.out]; exact hown5
        have s7 := hgrow5.size
        simp at s7
        clear hown5 hgrow5
        go_wp2
        exact ⟨⟨k + 1, by omega, by go_num, rfl, Lib.hid ho, hb5, by omega⟩, by simp [intOf]; omega⟩
      · rename_i hheld
        clear hheld
        have LY : LBox (((((w4.setCell ⟨wr.heap.size, 0, none⟩ (.int .i64 r.a)).setCell ⟨wr.heap.size, 1, none⟩ (.int .i64 r.b)).setCell ⟨wr.heap.size, 2, none⟩ (.int .i64 r.c)).setCell ⟨wr.heap.size, 3, none⟩ (.int .i64 r.d)).setCell ⟨wr.heap.size, 4, none⟩ (.int .i64 r.n)) wr.heap.size [r] := Z4.out.put 0 (by decide) r
        have B0 : Below wr.heap.size wr (((((w4.setCell ⟨wr.heap.size, 0, none⟩ (.int .i64 r.a)).setCell ⟨wr.heap.size, 1, none⟩ (.int .i64 r.b)).setCell ⟨wr.heap.size, 2, none⟩ (.int .i64 r.c)).setCell ⟨wr.heap.size, 3, none⟩ (.int .i64 r.d)).setCell ⟨wr.heap.size, 4, none⟩ (.int .i64 r.n)) := B4.grown (grown_setCells wr.heap.size (uc r) 0 w4) B4.size (fun j e => by cases e; exact Nat.le_refl _)
        have HOY := Lib.hid (owned_later hown.out B0)
        have BY := Lib.hid (hb.trans (B0.mono hbs))
        have sY : B + 1 ≤ (((((w4.setCell ⟨wr.heap.size, 0, none⟩ (.int .i64 r.a)).setCell ⟨wr.heap.size, 1, none⟩ (.int .i64 r.b)).setCell ⟨wr.heap.size, 2, none⟩ (.int .i64 r.c)).setCell ⟨wr.heap.size, 3, none⟩ (.int .i64 r.d)).setCell ⟨wr.heap.size, 4, none⟩ (.int .i64 r.n)).heap.size := Nat.le_trans hgs B0.size
        have HLY := Lib.hid LY
        clear LY B0 hw4 hown B4 K5 K6 n0 n1 n2 n3 n4 m0 m1 m2 m3 m4 Z4 z0 z1 z2 z3 z4 zf zl HZ0
        generalize ((((w4.setCell ⟨wr.heap.size, 0, none⟩ (.int .i64 r.a)).setCell ⟨wr.heap.size, 1, none⟩ (.int .i64 r.b)).setCell ⟨wr.heap.size, 2, none⟩ (.int .i64 r.c)).setCell ⟨wr.heap.size, 3, none⟩ (.int .i64 r.d)).setCell ⟨wr.heap.size, 4, none⟩ (.int .i64 r.n) = Y at *
        generalize wr.heap.size = P at *
        obtain ⟨⟨y0, y1, y2, y3, y4⟩, yf, yl⟩ := one_boxI HLY.out
        go_wp2_with (at_builtin; refine wpList_append_fits _ rfl (.tmp 49) (.tmp 51) 23 rfl B 34 i0 5 Try.underlying23 hi hz1 B k G.length ((M.take k).flatMap uc) rfl (HOY.out.alloc _) ⟨Y.heap.size, 0, none⟩ 1 1 (uc r) rfl rfl (five_cells rfl (by simp [go_sem]) (by simp [go_sem]) (by simp [go_sem]) (by simp [go_sem]) (by simp [go_sem])) (five_one rfl) (by omega) ?_; intro w5 hown5 hgrow5)
        have bYs := BY.out.size
        have hb5 : Below w.heap.size w w5 := Below.grown (BY.out.trans (ba1.mono bYs)) hgrow5 (by simp; omega) (fun j hj => by simp at hj; omega)
        have ho : w5.ownsRow B 34 5 (.slice (some ⟨B, 0, none⟩) (k + 1) G.length) (k + 1) ((M.take (k + 1)).flatMap uc) := by rw [Q1.out]; exact hown5
        have s7 := hgrow5.size
        simp at s7
        clear hown5 hgrow5
        go_wp2
        exact ⟨⟨k + 1, by omega, by go_num, rfl, Lib.hid ho, hb5, by omega⟩, by simp [intOf]; omega⟩
    · obtain rfl : k = G.length := by omega
      have ho := hown.out
      rw [HF.out] at ho
      obtain ⟨LB, hgb⟩ := owned_LBox HM.out ho
      have HLB := Lib.hid LB
      clear hown ho LB
      go_wp2_with (fail)
      refine (c3 B _ _ HLB.out.h).mono ?_
      rintro e w5 ⟨(⟨hlim, rfl⟩ | ⟨hlim, rfl⟩), hw5⟩
      · go_wp2
        go_ret2
        exact ⟨.inl ⟨hlim, B, _, rfl, HLB.out.later hw5⟩, hb.trans (hw5.mono hbs)⟩
      · go_wp2
        go_ret2
        exact ⟨.inr ⟨hlim, rfl⟩, hb.trans (hw5.mono hbs)⟩
end Go.Proofs.Ytegeamfacajeeaa
