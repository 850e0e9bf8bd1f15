/- The table of a link: a row for each value, with the function that weighs it, as the program makes it.
Conditions: those written at each theorem. -/
import Derived.Test.YtpfhjdmgkckjfaaGreatDoorAWgtC
import Derived.Test.YtpfhjdmgkckjfaaGreatDoorASmall
import Derived.Test.YtpfhjdmgkckjfaaGreatDoorATabB
import Derived.Laws.Tables
import Derived.Laws.EntriesVeiled
namespace Go.Proofs.YtpfhjdmgkckjfaaGreatDoor
set_option linter.unusedVariables false
set_option linter.unusedSimpArgs false
set_option maxRecDepth 1000000
open Go.RowKit
open Um Tm Cm

theorem compact_cons (x : Int) (l : List Int) : 1 ≤ (Lib.compact (x :: l)).length := by
  unfold Lib.compact Lib.compactUpTo
  rw [List.length_map, List.length_cons, List.range_succ_eq_map, List.filter_cons, if_pos (by simp [Lib.keeps])]
  simp
theorem compact_le (l : List Int) : (Lib.compact l).length ≤ l.length := by
  unfold Lib.compact Lib.compactUpTo
  rw [List.length_map]
  exact Nat.le_trans (List.length_filter_le _ _) (by simp)
theorem thr_some {a b c l : Int} (h : Sz a b c) (h0 : 0 ≤ l) (h1 : l < 3 * (a * b * c)) : 1 ≤ (thr a b c l).length ∧ (thr a b c l).length ≤ 4 := by
  have h4 : (isort (Cm.four a b c l)).length = 4 := by
    rw [(isort_perm _).length_eq]
    unfold Cm.four two
    split
    · rfl
    · split <;> rfl
  rw [← thr_eq h h0 h1]
  refine ⟨?_, by have := compact_le (isort (Cm.four a b c l)); omega⟩
  cases hl : isort (Cm.four a b c l) with
  | nil => rw [hl] at h4; simp at h4
  | cons x xs => exact compact_cons x xs

/-- what a closure of the table has captured -/
structure Cap (a b c : Int) (w : World) (Bc Bw Bu bl off cap k pb po : Nat) (l : Int) (L : List Q) (u : Q) (ws ps : List Int) (xs : List Value) : Prop where
  cb : CB w Bc (.slice (some ⟨bl, off, none⟩) L.length cap) l (.slice (some ⟨pb, po, none⟩) ps.length k)
  wb : WB w Bw ws
  ur : URead w Bu u
  li : Lies w bl off L
  pl : PLs a b c w xs ps
  xl : ∀ (i : Nat) (x : Value), xs[i]? = some x → w.cell? ⟨pb, po + i, none⟩ = some x
theorem Cap.later {a b c : Int} {w w1 : World} {Bc Bw Bu bl off cap k pb po : Nat} {l : Int} {L : List Q} {u : Q} {ws ps : List Int} {xs : List Value} (h : Cap a b c w Bc Bw Bu bl off cap k pb po l L u ws ps xs) (hb : Below w.heap.size w w1) : Cap a b c w1 Bc Bw Bu bl off cap k pb po l L u ws ps xs :=
  ⟨h.cb.later hb, h.wb.later hb, h.ur.later hb, h.li.later hb, h.pl.later hb, fun i x hx => (hb.cell (World.block_lt_of_cell? w _ (h.xl i x hx))).trans (h.xl i x hx)⟩
set_option maxHeartbeats 1600000 in
theorem closure_any (a b c l : Int) (L : List Q) (u : Q) (Bc Bw Bu bl off cap k pb po : Nat) (xs : List Value) (ps : List Int) (w0 w1 w2 w3 w4 : Int) (w : World) (hF : SmF a b c L) (hC : Cap a b c w Bc Bw Bu bl off cap k pb po l L u [w0, w1, w2, w3, w4] ps xs) (hps : ∀ p ∈ ps, 0 ≤ p ∧ p < 3 * (a * b * c)) (hp4 : ps.length ≤ 4) (hw : WOk [w0, w1, w2, w3, w4]) (hu : Sm u) :
    Calls Tryz.prog 79 #[.pointer (some ⟨Bc, 0, none⟩), .pointer (some ⟨Bw, 0, none⟩), .pointer (some ⟨Bu, 0, none⟩)] w fun e w' => e = .returned (.tuple #[.int .i64 (wprod a b c L [w0, w1, w2, w3, w4] l u ps), .int .i64 0]) ∧ Below w.heap.size w w' := by
  have c1 := weight_some a b c l L u bl off cap k pb po xs ps w0 w1 w2 w3 w4 w hF hC.li hC.pl hC.xl hps hp4 hw hu
  obtain ⟨e0, e1, e2, ef, el⟩ := hC.cb
  obtain ⟨u0, u1, u2, u3, u4, ul⟩ := hC.ur
  have x0 := hC.wb.h 0 _ rfl
  have x1 := hC.wb.h 1 _ rfl
  have x2 := hC.wb.h 2 _ rfl
  have x3 := hC.wb.h 3 _ rfl
  have x4 := hC.wb.h 4 _ rfl
  clear hF hC hps hw hu
  go_enter Tryz.func79, Tryz.ntmps79
  go_wp2_with ((with_reducible refine c1.mono ?_); rintro e w5 ⟨rfl, hw5⟩)
  go_ret2
  exact ⟨rfl, hw5⟩
theorem infoRt : (Tryz.prog.info? 77).map (·.size) = some 144 := by kernel_rfl
theorem zeroRt : Tryz.zeroCells77.size = 144 := by kernel_rfl
/-- a row's cells -/
def rc (x : Q × Value) : List Value := uc x.1 ++ [x.2]
theorem rc_len (x : Q × Value) : (rc x).length = 6 := rfl
/-- the function of a row -/
def fnv (Bc Bw Bu : Nat) : Value := .func (.func 79) #[] #[.pointer (some ⟨Bc, 0, none⟩), .pointer (some ⟨Bw, 0, none⟩), .pointer (some ⟨Bu, 0, none⟩)]
/-- the rows of a table, as far as it is made -/
def Rows (w : World) (Bc Bw m : Nat) (R : List (Q × Value)) : Prop := ∀ (i : Nat) (x : Q × Value), R[i]? = some x → x.1 = small i ∧ ∃ Bu, x.2 = fnv Bc Bw Bu ∧ URead w Bu (small i) ∧ m < Bu
theorem Rows.later {w w1 : World} {Bc Bw m : Nat} {R : List (Q × Value)} (h : Rows w Bc Bw m R) (hb : Below w.heap.size w w1) : Rows w1 Bc Bw m R := fun i x hx => by
  obtain ⟨h1, Bu, h2, h3, h4⟩ := h i x hx
  exact ⟨h1, Bu, h2, h3.later hb, h4⟩
theorem Rows.grown {w w1 : World} {Bc Bw m g : Nat} {R : List (Q × Value)} (h : Rows w Bc Bw m R) (hg : w.grownBy w1 (some g)) (hm : g ≤ m) : Rows w1 Bc Bw m R := fun i x hx => by
  obtain ⟨h1, Bu, h2, h3, h4⟩ := h i x hx
  exact ⟨h1, Bu, h2, h3.grown hg (by simp; omega), h4⟩
theorem Rows.snoc {w : World} {Bc Bw Bu m : Nat} {R : List (Q × Value)} (h : Rows w Bc Bw m R) (hu : URead w Bu (small (R.length : Int))) (hm : m < Bu) : Rows w Bc Bw m (R ++ [(small (R.length : Int), fnv Bc Bw Bu)]) := fun i x hx => by
  by_cases hi : i < R.length
  · rw [List.getElem?_append_left hi] at hx
    exact h i x hx
  · rw [List.getElem?_append_right (by omega)] at hx
    have h0 : i = R.length := by
      rcases Nat.eq_zero_or_pos (i - R.length) with h0 | h0
      · omega
      · rw [List.getElem?_eq_none (by simp; omega)] at hx; simp at hx
    subst h0
    simp at hx
    subst hx
    exact ⟨rfl, Bu, rfl, hu, hm⟩
/-- the cells of a table that is being made -/
def tabCells (Z : List Value) (R : List (Q × Value)) : List Value := R.flatMap rc ++ Z.drop (6 * R.length)
theorem tabCells_nil (Z : List Value) : tabCells Z [] = Z := by simp [tabCells]
theorem flat6 (R : List (Q × Value)) : (R.flatMap rc).length = R.length * 6 := flat_len rc 6 (fun _ => rfl) R
theorem tabCells_put (Z : List Value) (hz : Z.length = 144) (R : List (Q × Value)) (x : Q × Value) (h : R.length < 24) : upd (tabCells Z R) (6 * R.length) (rc x) = tabCells Z (R ++ [x]) := by
  have e : Z.drop (6 * R.length) = (Z.drop (6 * R.length)).take 6 ++ Z.drop (6 * R.length + 6) := by
    rw [← List.drop_drop, List.take_append_drop]
  unfold tabCells
  rw [e]
  have hl : (R.flatMap rc).length = 6 * R.length := by rw [flat6]; omega
  rw [← hl, upd_mid (rc x) (R.flatMap rc) _ _ (by rw [rc_len, List.length_take, List.length_drop, hz]; omega), hl]
  simp [List.flatMap_append, Nat.mul_add]
theorem tabCells_at (Z : List Value) (hz : Z.length = 144) (R : List (Q × Value)) (h : R.length < 24) (j : Nat) (hj : j < 6) : ∃ v, (tabCells Z R)[6 * R.length + j]? = some v := by
  have : 6 * R.length + j < (tabCells Z R).length := by
    unfold tabCells
    rw [List.length_append, flat6, List.length_drop, hz]
    omega
  exact ⟨_, List.getElem?_eq_getElem this⟩
theorem tabCells_all (Z : List Value) (hz : Z.length = 144) (R : List (Q × Value)) (h : R.length = 24) : tabCells Z R = R.flatMap rc ∧ (R.flatMap rc).length = 144 := by
  refine ⟨?_, by rw [flat6]; omega⟩
  unfold tabCells
  rw [List.drop_eq_nil_of_le (by rw [hz]; omega), List.append_nil]
theorem zeroRt_one : Tryz.zeroCells77.toList[1]? = some (.int .i64 0) := by kernel_rfl
theorem zeroRt_len : Tryz.zeroCells77.toList.length = 144 := by rw [Array.length_toList, zeroRt]
theorem row_some {a b c : Int} {w : World} {ao : Option Addr} {xs : List Value} {ps : List Int} (h : PLs a b c w xs ps) (hx : ∀ (i : Nat) (x : Value), xs[i]? = some x → ∃ b off, ao = some ⟨b, off, none⟩ ∧ w.cell? ⟨b, off + i, none⟩ = some x) (hn : 1 ≤ ps.length) : ∃ pb po, ao = some ⟨pb, po, none⟩ ∧ ∀ (i : Nat) (x : Value), xs[i]? = some x → w.cell? ⟨pb, po + i, none⟩ = some x := by
  have hl : 0 < xs.length := by rw [h.1]; omega
  obtain ⟨pb, po, rfl, -⟩ := hx 0 _ (List.getElem?_eq_getElem hl)
  refine ⟨pb, po, rfl, fun i x hi => ?_⟩
  obtain ⟨b', o', e, k⟩ := hx i x hi
  simp only [Option.some.injEq, Addr.mk.injEq, and_true] at e
  rw [e.1, e.2]
  exact k
theorem rc_one (R : List (Q × Value)) (w : World) (Bc Bw m : Nat) (h : Rows w Bc Bw m R) : (R.flatMap rc).toArray.all (·.oneCell') = true := by
  simp only [List.all_toArray, List.all_eq_true, List.mem_flatMap]
  rintro v ⟨x, hx, hv⟩
  obtain ⟨i, hi⟩ := List.getElem?_of_mem hx
  obtain ⟨h1, Bu, h2, -⟩ := h i x hi
  simp only [rc, uc, List.mem_append, List.mem_cons, List.not_mem_nil, or_false] at hv
  rcases hv with (rfl | rfl | rfl | rfl | rfl) | rfl
  · rfl
  · rfl
  · rfl
  · rfl
  · rfl
  · rw [h2]; rfl
/-- what tableOf hands back -/
def RetT (a b c l : Int) (L : List Q) (bl off cap : Nat) (ws : List Int) (e : Ending) (w' : World) : Prop := ∃ (R : List (Q × Value)) (Bc Bw m k pb po : Nat) (xs : List Value), e = .returned (.tuple #[.agg (R.flatMap rc).toArray, .int .i64 0]) ∧ R.length = 24 ∧ Rows w' Bc Bw m R ∧ CB w' Bc (.slice (some ⟨bl, off, none⟩) L.length cap) l (.slice (some ⟨pb, po, none⟩) (thr a b c l).length k) ∧ WB w' Bw ws ∧ PLs a b c w' xs (thr a b c l) ∧ (∀ (i : Nat) (x : Value), xs[i]? = some x → w'.cell? ⟨pb, po + i, none⟩ = some x)
theorem grown_setRow (w : World) (g : Nat) (cs : Array Value) : w.grownBy (w.setRow g cs) (some g) :=
  ⟨rfl, rfl, rfl, by simp [World.setRow], fun k hk hne => by
    have : g ≠ k := fun e => hne (by rw [e])
    simp [World.setRow, Array.getElem?_modify, this]⟩
set_option maxHeartbeats 6400000 in
theorem table_any (a b c l : Int) (L : List Q) (bl off cap : Nat) (w0 w1 w2 w3 w4 : Int) (w : World) (hF : SmF a b c L) (h0 : 0 ≤ l) (h1 : l < 3 * (a * b * c)) (hL : Lies w bl off L) (hst : StA w) :
    Calls Tryz.prog 41 #[.agg #[.int .i64 a, .int .i64 b, .int .i64 c, .slice (some ⟨bl, off, none⟩) L.length cap], .agg #[.int .i64 w0, .int .i64 w1, .int .i64 w2, .int .i64 w3, .int .i64 w4], .int .i64 l] w fun e w' => RetT a b c l L bl off cap [w0, w1, w2, w3, w4] e w' ∧ Below w.heap.size w w' := by
  have c1 := fun (W : World) hs => crossing_ok a b c l (some ⟨bl, off, none⟩) L.length cap W hF.z h0 h1 hs
  have c2 := fun (k : Nat) (h : k ≤ 23) (W : World) => small_any k W (by omega) (by omega)
  obtain ⟨hn1, hn4⟩ := thr_some hF.z h0 h1
  have HC := Lib.hid c2
  have HL := Lib.hid hL
  have HST := Lib.hid hst
  have hw0 := hst.lt
  have hst3 := Lib.hid (((hst.later ((Below.refl _ _).alloc (Nat.le_refl _) (.cells #[.int .i64 a, .int .i64 b, .int .i64 c, .slice (some ⟨bl, off, none⟩) L.length cap] 25))).later ((Below.refl _ _).alloc (Nat.le_refl _) (.cells #[.int .i64 w0, .int .i64 w1, .int .i64 w2, .int .i64 w3, .int .i64 w4] 26))).later ((Below.refl _ _).alloc (Nat.le_refl _) (.cells Tryz.zeroCells77 77)))
  clear hF h0 h1 hL hst c2
  obtain ⟨T, hT⟩ : ∃ T, thr a b c l = T := ⟨_, rfl⟩
  rw [hT] at c1 hn1 hn4
  have HTE := Lib.hid hT
  clear hT
  have hmf : ∀ (fn : Fn) (first cap : Array Value) (w : World), (Instr.makeFunc fn first cap).run Tryz.prog w = .ok (.func fn first cap) w := fun _ _ _ _ => rfl
  go_enter Tryz.func41, Tryz.ntmps41
  go_wp2_with ((with_reducible refine (c1 _ hst3.out).mono ?_); clear c1; rintro e w5 ⟨⟨ao, kp, xs, rfl, hpl, hxl, hao⟩, hw5⟩; have hc5 := Tail.cells hw5; obtain ⟨pb, po, rfl, hxl2⟩ := row_some hpl hxl hn1; have hpb := hao _ rfl; clear hao; have HPL := Lib.hid hpl; have HXL := Lib.hid hxl2; clear hpl hxl hxl2)
  have hs5 := hw5.size
  simp at hs5
  have z5 : w.heap.size + 1 + 1 < w5.heap.size := by omega
  have wb0 := ((((five_at (by simp [go_sem]) (by simp [go_sem]) (by simp [go_sem]) (by simp [go_sem]) (by simp [go_sem]) : WB ((w.alloc (.cells #[.int .i64 a, .int .i64 b, .int .i64 c, .slice (some ⟨bl, off, none⟩) L.length cap] 25)).alloc (.cells #[.int .i64 w0, .int .i64 w1, .int .i64 w2, .int .i64 w3, .int .i64 w4] 26)) (w.heap.size + 1) [w0, w1, w2, w3, w4]).later ((Below.refl _ _).alloc (Nat.le_refl _) (.cells Tryz.zeroCells77 77))).later hw5).later ((Below.refl _ _).alloc (Nat.le_refl _) (.cells #[.slice (some ⟨bl, off, none⟩) L.length cap, .int .i64 l, .slice (some ⟨pb, po, none⟩) T.length kp] 122))).later ((Below.refl _ _).alloc (Nat.le_refl _) (.cells Tryz.zeroCells77 77))
  have cb0 := (⟨by simp [go_sem], by simp [go_sem], by simp [go_sem], fun j => by simp [go_sem], by simp⟩ : CB (w5.alloc (.cells #[.slice (some ⟨bl, off, none⟩) L.length cap, .int .i64 l, .slice (some ⟨pb, po, none⟩) T.length kp] 122)) w5.heap.size (.slice (some ⟨bl, off, none⟩) L.length cap) l (.slice (some ⟨pb, po, none⟩) T.length kp)).later ((Below.refl _ _).alloc (Nat.le_refl _) (.cells Tryz.zeroCells77 77))
  have rb0 := ((((ABx.news (w := ((w.alloc (.cells #[.int .i64 a, .int .i64 b, .int .i64 c, .slice (some ⟨bl, off, none⟩) L.length cap] 25)).alloc (.cells #[.int .i64 w0, .int .i64 w1, .int .i64 w2, .int .i64 w3, .int .i64 w4] 26))) (T := 77) Tryz.zeroCells77).later hw5).later ((Below.refl _ _).alloc (Nat.le_refl _) (.cells #[.slice (some ⟨bl, off, none⟩) L.length cap, .int .i64 l, .slice (some ⟨pb, po, none⟩) T.length kp] 122))).later ((Below.refl _ _).alloc (Nat.le_refl _) (.cells Tryz.zeroCells77 77)))
  simp only [World.size_alloc] at rb0
  have tb0 := ABx.news (w := w5.alloc (.cells #[.slice (some ⟨bl, off, none⟩) L.length cap, .int .i64 l, .slice (some ⟨pb, po, none⟩) T.length kp] 122)) (T := 77) Tryz.zeroCells77
  simp only [World.size_alloc] at tb0
  rw [← tabCells_nil Tryz.zeroCells77.toList] at tb0
  have hb5 : Below w5.heap.size w5 ((w5.alloc (.cells #[.slice (some ⟨bl, off, none⟩) L.length cap, .int .i64 l, .slice (some ⟨pb, po, none⟩) T.length kp] 122)).alloc (.cells Tryz.zeroCells77 77)) := ((Below.refl _ _).alloc (Nat.le_refl _) _).alloc (by simp) _
  have hB0 : Below w.heap.size w w5 := by repeat (first | (with_reducible exact Below.refl _ _) | (with_reducible refine Below.setCell ?_ ?_ _) | (with_reducible refine Below.drew ?_) | (with_reducible refine Below.alloc ?_ ?_ _) | (with_reducible refine Below.trans ?_ (Below.mono hw5 ?_)) | (with_reducible exact hw5.size) | omega | (simp <;> omega) | (simp <;> (have s := hw5.size; omega)) | (have s0 := hw5.size; (try simp at s0); (try simp); omega))
  have hR0 : Rows ((w5.alloc (.cells #[.slice (some ⟨bl, off, none⟩) L.length cap, .int .i64 l, .slice (some ⟨pb, po, none⟩) T.length kp] 122)).alloc (.cells Tryz.zeroCells77 77)) w5.heap.size (w.heap.size + 1) (w5.heap.size + 1) [] := fun i x hx => by simp at hx
  have HB0 := Lib.hid hB0
  clear hw5 hc5 hB0
  have ZL := Lib.hid zeroRt_len
  have Z1 := Lib.hid zeroRt_one
  simp at hpb
  have TP := Lib.hid (tabCells_put Tryz.zeroCells77.toList zeroRt_len)
  have TA := Lib.hid (tabCells_at Tryz.zeroCells77.toList zeroRt_len)
  have TE := Lib.hid (tabCells_all Tryz.zeroCells77.toList zeroRt_len)
  generalize Tryz.zeroCells77.toList = Z at *
  go_loopw [11, 12, 13, 24] (fun _ _ _ q wr => ∃ (k : Nat) (R : List (Q × Value)), k ≤ 24 ∧ q = .int .i64 k ∧ Hid (R.length = k) ∧ Hid (Rows wr w5.heap.size (w.heap.size + 1) (w5.heap.size + 1) R) ∧ Hid (ABx wr (w5.heap.size + 1) 77 (tabCells Z R)) ∧ Hid (CB wr w5.heap.size (.slice (some ⟨bl, off, none⟩) L.length cap) l (.slice (some ⟨pb, po, none⟩) T.length kp)) ∧ Hid (WB wr (w.heap.size + 1) [w0, w1, w2, w3, w4]) ∧ Hid (ABx wr (w.heap.size + 1 + 1) 77 Z) ∧ Below w5.heap.size w5 wr) (fun _ _ _ q _ => 24 - (intOf q).toNat)
  case atStart => exact ⟨0, [], by omega, rfl, Lib.hid rfl, Lib.hid hR0, Lib.hid tb0, Lib.hid cb0, Lib.hid wb0, Lib.hid rb0, hb5⟩
  case round =>
    obtain ⟨k, R, hk, rfl, hRl, hR, tb, cb, wb, rb, hb⟩ := hrel
    clear wb0 cb0 rb0 tb0 hb5 hR0
    have hbs := hb.size
    by_cases hlt : k < 24
    · have i1 : (k : Int) < 24 := by omega
      have c3 := HC.out k (by omega)
      have hcell : ∀ j, j < 6 → ∃ v, wr.cell? ⟨w5.heap.size + 1, k * 6 + j, none⟩ = some v := fun j hj => by
        obtain ⟨v, hv⟩ := TA.out R (by rw [hRl.out]; exact hlt) j hj
        refine ⟨v, ?_⟩
        rw [tb.out.cell, show k * 6 + j = 6 * R.length + j by rw [hRl.out]; omega]
        exact hv
      obtain ⟨v0, f0⟩ := hcell 0 (by omega)
      obtain ⟨v1, f1⟩ := hcell 1 (by omega)
      obtain ⟨v2, f2⟩ := hcell 2 (by omega)
      obtain ⟨v3, f3⟩ := hcell 3 (by omega)
      obtain ⟨v4, f4⟩ := hcell 4 (by omega)
      obtain ⟨v5, f5⟩ := hcell 5 (by omega)
      replace f0 : wr.cell? ⟨w5.heap.size + 1, k * 6, none⟩ = some v0 := f0
      have fz : ∀ j, wr.frozen? ⟨w5.heap.size + 1, j, none⟩ = false := fun j => tb.out.free j
      have fl := tb.out.lt
      have hyk : small (k : Int) = small (R.length : Int) := by rw [hRl.out]
      have HYK := Lib.hid hyk
      clear hcell hyk
      generalize small (k : Int) = y at *
      go_wp2_with ((with_reducible refine (c3 _).mono ?_); clear c3; rintro e w6 ⟨rfl, hw6⟩; have hc6 := Tail.cells hw6; have s6 := hw6.size; have fl6 : w5.heap.size + 1 < w6.heap.size := (by omega); have g0 : w6.cell? ⟨w5.heap.size + 1, k * 6, none⟩ = some v0 := (hc6.1 _ _ fl).trans f0; have g1 := (hc6.1 _ _ fl).trans f1; have g2 := (hc6.1 _ _ fl).trans f2; have g3 := (hc6.1 _ _ fl).trans f3; have g4 := (hc6.1 _ _ fl).trans f4; have g5 := (hc6.1 _ _ fl).trans f5; have gz : ∀ j, w6.frozen? ⟨w5.heap.size + 1, j, none⟩ = false := (fun j => (hc6.2 _ _ fl).trans (fz j)); clear f0 f1 f2 f3 f4 f5 fz hc6)
      have G1 := grown_setCells (w5.heap.size + 1) (rc (y, fnv w5.heap.size (w.heap.size + 1) w6.heap.size)) (k * 6) w6
      have hsz : (w6.setCells (w5.heap.size + 1) (k * 6) (rc (y, fnv w5.heap.size (w.heap.size + 1) w6.heap.size))).heap.size = w6.heap.size := by simp [rc, uc, World.setCells, World.setCell]
      have AL : Below (w6.setCells (w5.heap.size + 1) (k * 6) (rc (y, fnv w5.heap.size (w.heap.size + 1) w6.heap.size))).heap.size (w6.setCells (w5.heap.size + 1) (k * 6) (rc (y, fnv w5.heap.size (w.heap.size + 1) w6.heap.size))) ((w6.setCells (w5.heap.size + 1) (k * 6) (rc (y, fnv w5.heap.size (w.heap.size + 1) w6.heap.size))).alloc (.cells #[.int .i64 y.a, .int .i64 y.b, .int .i64 y.c, .int .i64 y.d, .int .i64 y.n] 73)) := (Below.refl _ _).alloc (Nat.le_refl _) _
      have u6 : URead ((w6.setCells (w5.heap.size + 1) (k * 6) (rc (y, fnv w5.heap.size (w.heap.size + 1) w6.heap.size))).alloc (.cells #[.int .i64 y.a, .int .i64 y.b, .int .i64 y.c, .int .i64 y.d, .int .i64 y.n] 73)) w6.heap.size (small (R.length : Int)) := by
        rw [← HYK.out]
        generalize w6.setCells (w5.heap.size + 1) (k * 6) (rc (y, fnv w5.heap.size (w.heap.size + 1) w6.heap.size)) = w7 at *
        rw [← hsz]
        exact ⟨by simp [go_sem], by simp [go_sem], by simp [go_sem], by simp [go_sem], by simp [go_sem], by simp⟩
      have r6 := (((hR.out.later hw6).grown G1 (Nat.le_refl _)).later AL).snoc u6 (by omega)
      have t6 := ABx.sets (rc (y, fnv w5.heap.size (w.heap.size + 1) w6.heap.size)) _ _ (k * 6) (tb.out.later hw6)
      have e6 := TP.out R (small (R.length : Int), fnv w5.heap.size (w.heap.size + 1) w6.heap.size) (by rw [hRl.out]; exact hlt)
      rw [← HYK.out] at e6 r6
      have k6 : k * 6 = 6 * R.length := by rw [hRl.out]; omega
      have t7 : ABx (w6.setCells (w5.heap.size + 1) (k * 6) (rc (y, fnv w5.heap.size (w.heap.size + 1) w6.heap.size))) (w5.heap.size + 1) 77 (tabCells Z (R ++ [(y, fnv w5.heap.size (w.heap.size + 1) w6.heap.size)])) := by
        rw [← e6, ← k6]
        exact t6
      have t8 := t7.later AL
      have c6 := ((cb.out.later hw6).grown G1 (by simp)).later AL
      have w7 := wb.out.later hw6
      have w8 := (⟨fun i x hx => G1.cell (w7.h i x hx) (by simp; omega), Nat.lt_of_lt_of_le w7.lt G1.size⟩ : WB (w6.setCells (w5.heap.size + 1) (k * 6) (rc (y, fnv w5.heap.size (w.heap.size + 1) w6.heap.size))) (w.heap.size + 1) [w0, w1, w2, w3, w4]).later AL
      have b6 := ((rb.out.later hw6).grown G1 (by simp; omega)).later AL
      have hb6 : Below w5.heap.size w5 w6 := hb.trans (hw6.mono hbs)
      have hb7 := (hb6.grown G1 hb6.size (fun j hj => by simp at hj; omega)).trans (AL.mono (by rw [hsz]; omega))
      have hl6 : (R ++ [(y, fnv w5.heap.size (w.heap.size + 1) w6.heap.size)]).length = k + 1 := by rw [List.length_append, hRl.out]; rfl
      clear g0 g1 g2 g3 g4 g5 gz hR tb cb wb rb hw6 u6 AL G1 w7 hb6 t6 t7 e6
      exact ⟨⟨k + 1, _, by omega, by go_num, Lib.hid hl6, Lib.hid r6, Lib.hid t8, Lib.hid c6, Lib.hid w8, Lib.hid b6, hb7⟩, by simp [intOf]; omega⟩
    · obtain rfl : k = 24 := by omega
      obtain ⟨te, tl⟩ := TE.out R hRl.out
      have tbh : wr.heap[w5.heap.size + 1]? = some (.cells (R.flatMap rc).toArray 77 (0, 0)) := by
        have := tb.out.h
        rwa [te] at this
      have rbh := rb.out.h
      have RB1 := Lib.hid ((rb.out.cell 1).trans Z1.out)
      have hone := rc_one R wr _ _ _ hR.out
      have hsz : (Tryz.prog.info? 77).map (·.size) = some (R.flatMap rc).toArray.size := by rw [infoRt, List.size_toArray, tl]
      have hzs : Z.toArray.size = (R.flatMap rc).toArray.size := by rw [List.size_toArray, List.size_toArray, tl]; exact ZL.out
      have hRl' := Lib.hid hRl.out
      have TBH := Lib.hid tbh
      have RBH := Lib.hid rbh
      have HONE := Lib.hid hone
      have HSZ := Lib.hid hsz
      have HZS := Lib.hid hzs
      clear te tl hRl tb rb tbh rbh hone hsz hzs
      generalize hA : (R.flatMap rc).toArray = A at *
      have HA := Lib.hid hA
      clear hA
      go_wp2_with (first | (refine wpList_load_row rfl 77 (.tmp 10) rfl (w5.heap.size + 1) rfl 77 A (0, 0) _ TBH.out Tryz.underlying77 rfl HSZ.out ?_) | (refine wpList_store_row rfl 77 (.tmp 6) (.tmp 42) rfl (w.heap.size + 1 + 1) A rfl rfl 77 Z.toArray RBH.out HSZ.out HZS.out HONE.out ?_))
      have G1 := grown_setRow wr (w.heap.size + 1 + 1) A
      have hh := setRow_heap wr (w.heap.size + 1 + 1) Z.toArray A 77 (0, 0) RBH.out
      have hB1 : Below w.heap.size w wr := HB0.out.trans (hb.mono (by omega))
      refine bodyPost_ret (v := .tuple #[.agg A, .int .i64 0]) ?_ rfl ⟨⟨R, w5.heap.size, w.heap.size + 1, w5.heap.size + 1, kp, pb, po, xs, by rw [HA.out], hRl'.out, hR.out.grown G1 (by omega), ?_, ?_, ?_, ?_⟩, ?_⟩
      · simp [results, Tryz.results41, asAddr, run_loadVar_row _ _ _ _ _ _ _ hh Tryz.underlying77 rfl HSZ.out]
      · rw [HTE.out]
        exact cb.out.grown G1 (by simp; omega)
      · exact ⟨fun i x hx => G1.cell (wb.out.h i x hx) (by simp), Nat.lt_of_lt_of_le wb.out.lt G1.size⟩
      · rw [HTE.out]
        exact (PLs.later HPL.out ((Below.refl _ _).trans hb)).offI RB1.out G1
      · exact fun i x hx => G1.cell ((hb.cell (World.block_lt_of_cell? w5 _ (HXL.out i x hx))).trans (HXL.out i x hx)) (by simp; omega)
      · exact hB1.grown G1 hB1.size (fun j hj => by simp at hj; omega)
end Go.Proofs.YtpfhjdmgkckjfaaGreatDoor
