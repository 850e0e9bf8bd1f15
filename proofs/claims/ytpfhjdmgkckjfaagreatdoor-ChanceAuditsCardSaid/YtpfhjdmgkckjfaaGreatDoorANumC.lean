/- Small fields and the numbers of their links, as the program and the document's answers find them.
Conditions: the list lies in memory as it is written at each theorem. -/
import Derived.Test.YtpfhjdmgkckjfaaGreatDoorAFieldC
import Derived.Test.YtpfhjdmgkckjfaaGreatDoorANumber
import Derived.Test.YtpfhjdmgkckjfaaGreatDoorAThrM
namespace Go.Proofs.YtpfhjdmgkckjfaaGreatDoor
set_option linter.unusedVariables false
set_option linter.unusedSimpArgs false
set_option maxRecDepth 1000000
open Go.RowKit
open Um Tm

theorem NumR.one {x : Q} {r s : Int} {b d : Bool} (h : NumR x r b) (k : NumR x s d) : r = s ∧ b = d := by
  rcases k with ⟨j, hj, e, hb, h1, h2⟩ | ⟨hn, h1, h2⟩
  · obtain ⟨p, q⟩ := h.here j hj e hb
    exact ⟨by rw [p, h1], by rw [q, h2]⟩
  · obtain ⟨p, q⟩ := h.none hn
    exact ⟨by rw [p, h1], by rw [q, h2]⟩
/-- the first numbers of a list -/
def Nums (L : List Q) (ms : List Int) (k : Nat) : Prop := ms.length = k ∧ ∀ (i : Nat) (x : Q), i < k → L[i]? = some x → ∃ n, ms[i]? = some n ∧ NumR x n true
def smR (L : List Q) (ns : List Int) (q : Bool) : Prop := (q = true ∧ Nums L ns L.length) ∨ (q = false ∧ ns = [] ∧ ∃ (k : Nat) (x : Q), L[k]? = some x ∧ NumR x 0 false)
theorem nums_snoc {L : List Q} {ms : List Int} {k : Nat} (h : Nums L ms k) {x : Q} {n : Int} (hx : L[k]? = some x) (hn : NumR x n true) : Nums L (ms ++ [n]) (k + 1) := by
  refine ⟨by simp [h.1], fun i y hi hy => ?_⟩
  by_cases he : i < k
  · obtain ⟨m, hm, hr⟩ := h.2 i y he hy
    exact ⟨m, by rw [List.getElem?_append_left (by rw [h.1]; exact he)]; exact hm, hr⟩
  · obtain rfl : i = k := by omega
    rw [hx] at hy
    simp only [Option.some.injEq] at hy
    subst hy
    exact ⟨n, by rw [List.getElem?_append_right (by rw [h.1]; exact Nat.le_refl _), h.1]; simp, hn⟩
theorem sm_end {L : List Q} {ns ms : List Int} {q : Bool} (h : smR L ns q) (hm : Nums L ms L.length) : q = true ∧ ns = ms := by
  rcases h with ⟨rfl, h⟩ | ⟨_, _, k, x, hx, hr⟩
  · refine ⟨rfl, List.ext_getElem? fun i => ?_⟩
    by_cases hi : i < L.length
    · obtain ⟨n, hn, hr⟩ := h.2 i _ hi (List.getElem?_eq_getElem hi)
      obtain ⟨m, hm', hr'⟩ := hm.2 i _ hi (List.getElem?_eq_getElem hi)
      rw [hn, hm', (hr.one hr').1]
    · rw [List.getElem?_eq_none (by rw [h.1]; omega), List.getElem?_eq_none (by rw [hm.1]; omega)]
  · obtain ⟨n, _, hr'⟩ := hm.2 k x (List.getElem?_eq_some_iff.1 hx).1 hx
    exact absurd (hr.one hr').2 (by decide)
theorem sm_bad {L : List Q} {ns : List Int} {q : Bool} (h : smR L ns q) {k : Nat} {x : Q} {n : Int} (hx : L[k]? = some x) (hr : NumR x n false) : q = false ∧ ns = [] := by
  rcases h with ⟨_, h⟩ | ⟨rfl, rfl, _⟩
  · obtain ⟨m, _, hr'⟩ := h.2 k x (List.getElem?_eq_some_iff.1 hx).1 hx
    exact absurd (hr.one hr').2 (by decide)
  · exact ⟨rfl, rfl⟩
theorem smR_ex (L : List Q) : ∃ ns q, smR L ns q := by
  have key : ∀ k : Nat, k ≤ L.length → (∃ ms, Nums L ms k) ∨ ∃ (j : Nat) (x : Q), L[j]? = some x ∧ NumR x 0 false := by
    intro k
    induction k with
    | zero => intro _; exact .inl ⟨[], rfl, fun i x h => by omega⟩
    | succ k ih =>
      intro hk
      rcases ih (by omega) with ⟨ms, h⟩ | h
      · obtain ⟨n, b, hn⟩ := NumR.ex (L[k]'(by omega))
        cases b with
        | true => exact .inl ⟨_, nums_snoc h (List.getElem?_eq_getElem (by omega)) hn⟩
        | false =>
          refine .inr ⟨k, _, List.getElem?_eq_getElem (by omega), ?_⟩
          rcases hn with ⟨_, _, _, _, _, h⟩ | ⟨h, _, _⟩
          · cases h
          · exact .inr ⟨h, rfl, rfl⟩
      · exact .inr h
  rcases key L.length (Nat.le_refl _) with ⟨ms, h⟩ | h
  · exact ⟨ms, true, .inl ⟨rfl, h⟩⟩
  · exact ⟨[], false, .inr ⟨rfl, rfl, h⟩⟩

/-- what the numbers of a field are, and its error -/
def numsR (a b c : Int) (L : List Q) (ns : List Int) (r : Int) : Prop := (fldR a b c L r ∧ r ≠ 0 ∧ ns = []) ∨ (fldR a b c L 0 ∧ ((smR L ns true ∧ r = 0) ∨ (smR L ns false ∧ r = 7)))

set_option maxHeartbeats 800000 in
theorem numbers_bad (a b c r : Int) (ao : Option Addr) (cap : Nat) (L : List Q) (w : World) (h : LiesO w ao L) (hr : fldR a b c L r) (h0 : r ≠ 0) (hlen : L.length ≤ 1000000) : Calls Tryz.prog 72 #[.agg #[.int .i64 a, .int .i64 b, .int .i64 c, .slice ao L.length cap]] w fun e w' => e = .returned (.tuple #[.slice none 0 0, .int .i64 r]) ∧ Below w.heap.size w w' := by
  have c1 : ∀ W : World, LiesO W ao L → Calls Tryz.prog 94 #[.agg #[.int .i64 a, .int .i64 b, .int .i64 c, .slice ao L.length cap]] W fun e w' => e = .returned (.int .i64 r) ∧ Below W.heap.size W w' := fun W h => validateF_any a b c r ao cap L W h hr hlen
  have H := Lib.hid h
  have h0' : (r != 0) = true := by simpa using h0
  clear h hr h0
  go_enter Tryz.func72, Tryz.ntmps72
  go_wp2_with ((with_reducible refine (c1 _ (H.out.later (by repeat (first | (with_reducible exact Below.refl _ _) | (with_reducible refine Below.setCell ?_ ?_ _) | (with_reducible refine Below.drew ?_) | (with_reducible refine Below.alloc ?_ ?_ _) | omega | (simp <;> omega))))).mono ?_); rintro e w1 ⟨rfl, hw1⟩)
  go_ret2
  exact ⟨rfl, by repeat (first | (with_reducible exact Below.refl _ _) | (with_reducible refine Below.setCell ?_ ?_ _) | (with_reducible refine Below.drew ?_) | (with_reducible refine Below.alloc ?_ ?_ _) | (with_reducible refine Below.trans ?_ (Below.mono hw1 ?_)) | (with_reducible exact hw1.size) | omega | (simp <;> omega) | (simp <;> (have s := hw1.size; omega)) | (have s0 := hw1.size; (try simp at s0); (try simp); omega))⟩
/-- What a list of results is: where a field is small, its numbers; else nothing, and ErrSmall. -/
def RetN (ns : List Int) (q : Bool) (e : Ending) (w' : World) : Prop := (q = true ∧ ∃ ao k, e = .returned (.tuple #[.slice ao ns.length k, .int .i64 0]) ∧ LiesOI w' ao ns) ∨ (q = false ∧ e = .returned (.tuple #[.slice none 0 0, .int .i64 7]))
def RetL (ns : List Int) (q : Bool) (e : Ending) (w' : World) : Prop := (q = true ∧ ∃ ao k, e = .returned (.tuple #[.slice ao ns.length k, .bool true]) ∧ LiesOI w' ao ns) ∨ (q = false ∧ e = .returned (.tuple #[.slice none 0 0, .bool false]))

set_option maxHeartbeats 1600000 in
theorem numbers_ok (a b c : Int) (ao : Option Addr) (cap : Nat) (L : List Q) (ns : List Int) (q : Bool) (w : World) (h : LiesO w ao L) (hr : fldR a b c L 0) (hq : smR L ns q) : Calls Tryz.prog 72 #[.agg #[.int .i64 a, .int .i64 b, .int .i64 c, .slice ao L.length cap]] w fun e w' => RetN ns q e w' ∧ Below w.heap.size w w' := by
  have hlen := fld_len hr
  obtain ⟨bl, off, rfl, h2⟩ := fld_some hr h
  have c1 : ∀ W : World, LiesO W (some ⟨bl, off, none⟩) L → Calls Tryz.prog 94 #[.agg #[.int .i64 a, .int .i64 b, .int .i64 c, .slice (some ⟨bl, off, none⟩) L.length cap]] W fun e w' => e = .returned (.int .i64 0) ∧ Below W.heap.size W w' := fun W h => validateF_any a b c 0 _ cap L W h hr (by omega)
  obtain ⟨i0, hi, hz0, hz1, hz2⟩ := info_parts infoI
  have HV := Lib.hid (fldR_ok hr).2.2
  have HO := Lib.hid h
  have H := Lib.hid h2
  have HQ := Lib.hid hq
  have hl2 : L.length ≤ maxLen := by unfold maxLen; omega
  have hl3 : i0.bytes * L.length ≤ 281474976710656 := by rw [hz2]; omega
  clear h h2 hr hq
  go_enter Tryz.func72, Tryz.ntmps72
  go_wp2_with (first | ((with_reducible refine (c1 _ (HO.out.later (by repeat (first | (with_reducible exact Below.refl _ _) | (with_reducible refine Below.setCell ?_ ?_ _) | (with_reducible refine Below.drew ?_) | (with_reducible refine Below.alloc ?_ ?_ _) | omega | (simp <;> omega))))).mono ?_); rintro e w1 ⟨rfl, hw1⟩; have s1 := hw1.size; simp at s1; have hc1 := Tail.cells hw1; have z0 := Nat.lt_of_lt_of_le (n := w.heap.size) (by simp) hw1.size) | (at_make; refine wpList_make_own _ rfl _ _ 67 rfl w1.heap.size 3 i0 _ 1 Tryz.underlying67 hi hz0 hz1 _ _ _ L.length rfl rfl rfl hl3 hl2 (Nat.le_refl _) ?_; intro w2 hown hgrow; have fb3 : w2.cell? ⟨w.heap.size, 3, none⟩ = some (.slice (some ⟨bl, off, none⟩) L.length cap) := hgrow.cell (by simp [go_sem, hc1, z0]) (by simp)))
  have hb2 : Below w.heap.size w w2 := (show Below w.heap.size w w1 by repeat (first | (with_reducible exact Below.refl _ _) | (with_reducible refine Below.setCell ?_ ?_ _) | (with_reducible refine Below.drew ?_) | (with_reducible refine Below.alloc ?_ ?_ _) | (with_reducible refine Below.trans ?_ (Below.mono hw1 ?_)) | (with_reducible exact hw1.size) | omega | (simp <;> omega) | (simp <;> (have s := hw1.size; omega)) | (have s0 := hw1.size; (try simp at s0); (try simp); omega))).grown hgrow (by omega) (by simp)
  have s2 := hgrow.size
  clear hgrow hw1 fb3 hc1 z0 c1
  generalize w1.heap.size = g at *
  go_loopw [5, 7, 8, 9, 10, 23] (fun f _ _ _ _ q wr => ∃ (k : Nat) (ms : List Int), k ≤ L.length ∧ q = .int .i64 k ∧ Hid (Nums L ms k) ∧ f = .slice (some ⟨g, 0, none⟩) k L.length ∧ Hid (wr.ownsRow g 3 1 (.slice (some ⟨g, 0, none⟩) k L.length) k (ms.map vi)) ∧ Below w.heap.size w wr ∧ g ≤ wr.heap.size) (fun _ _ _ _ _ q _ => L.length - (intOf q).toNat)
  case atStart => exact ⟨0, [], by omega, rfl, Lib.hid ⟨rfl, fun i x h => by omega⟩, rfl, Lib.hid hown, hb2, s2⟩
  case round =>
    obtain ⟨k, ms, hk, rfl, hms, rfl, hown1, hb, hgs⟩ := hrel
    clear hown hb2 s2
    have hbs := hb.size
    by_cases hlt : k < L.length
    · have hx : L[k]? = some L[k] := List.getElem?_eq_getElem hlt
      have hvx := (HV.out k _ hx).1
      obtain ⟨l0, l1, l2, l3, l4⟩ := H.out.later hb k _ hx
      obtain ⟨n, bq, hn⟩ := NumR.ex L[k]
      generalize L[k] = x at *
      have c2 := fun W : World => number_ok x n bq W hvx hn
      cases bq with
      | true =>
        have hnext := Lib.hid (nums_snoc hms.out hx hn)
        clear hvx hx hms hn
        go_wp2_with (first | ((with_reducible refine (c2 _).mono ?_); clear c2; rintro e w3 ⟨rfl, hw3⟩; have s3 := hw3.size; simp at s3) | (at_builtin; refine wpList_append_fits _ rfl (.tmp 38) (.tmp 40) 67 rfl g 3 i0 1 Tryz.underlying67 hi hz1 g k L.length (ms.map vi) rfl ((owned_later (hown1.out.alloc _) hw3).alloc _) ⟨w3.heap.size, 0, none⟩ 1 1 [vi n] rfl rfl (one_cell (by simp [go_sem, vi])) (one_one _) (by omega) ?_; intro w4 hown4 hgrow4))
        have hb3 : Below w.heap.size w w3 := by repeat (first | (with_reducible exact Below.refl _ _) | (with_reducible refine Below.setCell ?_ ?_ _) | (with_reducible refine Below.drew ?_) | (with_reducible refine Below.alloc ?_ ?_ _) | (with_reducible refine Below.trans ?_ (Below.mono hw3 ?_)) | (with_reducible refine Below.trans ?_ (Below.mono hb ?_)) | (with_reducible exact hw3.size) | (with_reducible exact hb.size) | omega | (simp <;> omega) | (simp <;> (have s := hw3.size; omega)) | (simp <;> (have s := hb.size; omega)) | (have s0 := hw3.size; (try simp at s0); have s1 := hb.size; (try simp at s1); (try simp); omega))
        have hb4 := (hb3.alloc hb3.size _).grown hgrow4 (by have := hb3.size; simp; omega) (fun j hj => by simp at hj; omega)
        have s4 := hgrow4.size
        simp at s4
        have ho : w4.ownsRow g 3 1 (.slice (some ⟨g, 0, none⟩) (k + 1) L.length) (k + 1) ((ms ++ [n]).map vi) := by
          rw [List.map_append]
          exact hown4
        clear hown4 hgrow4 hown1 hw3
        go_wp2
        exact ⟨⟨k + 1, ms ++ [n], by omega, by go_num, hnext, rfl, Lib.hid ho, hb4, by omega⟩, by simp [intOf]; omega⟩
      | false =>
        obtain ⟨hq1, hq2⟩ := sm_bad HQ.out hx hn
        have HQ1 := Lib.hid hq1
        clear hvx hx hms hn hq1 hq2 HQ
        go_wp2_with ((with_reducible refine (c2 _).mono ?_); clear c2; rintro e w3 ⟨rfl, hw3⟩)
        go_ret2
        exact ⟨.inr ⟨HQ1.out, rfl⟩, by repeat (first | (with_reducible exact Below.refl _ _) | (with_reducible refine Below.setCell ?_ ?_ _) | (with_reducible refine Below.drew ?_) | (with_reducible refine Below.alloc ?_ ?_ _) | (with_reducible refine Below.trans ?_ (Below.mono hw3 ?_)) | (with_reducible refine Below.trans ?_ (Below.mono hb ?_)) | (with_reducible exact hw3.size) | (with_reducible exact hb.size) | omega | (simp <;> omega) | (simp <;> (have s := hw3.size; omega)) | (simp <;> (have s := hb.size; omega)) | (have s0 := hw3.size; (try simp at s0); have s1 := hb.size; (try simp at s1); (try simp); omega))⟩
    · obtain rfl : k = L.length := by omega
      obtain ⟨hq1, hq2⟩ := sm_end HQ.out hms.out
      have hml := hms.out.1
      have hown' : wr.ownsRow g 3 1 (.slice (some ⟨g, 0, none⟩) ms.length L.length) ms.length (ms.map vi) := by
        rw [hml]
        exact hown1.out
      have hli := owned_liesI hown'
      have HQ1 := Lib.hid hq1
      have HQ2 := Lib.hid hq2
      have HML := Lib.hid hml
      clear hown1 hown' hq1 hq2 hml hms HQ
      go_wp2
      go_ret2
      exact ⟨.inl ⟨HQ1.out, some ⟨g, 0, none⟩, L.length, by rw [HQ2.out, HML.out]; rfl, by rw [HQ2.out]; exact .inr ⟨g, 0, rfl, hli⟩⟩, hb⟩

set_option maxHeartbeats 1600000 in
theorem letters_ok (a b c : Int) (ao : Option Addr) (cap : Nat) (L : List Q) (ns : List Int) (q : Bool) (w : World) (h : LiesO w ao L) (hr : fldR a b c L 0) (hq : smR L ns q) : Calls Tryz.prog 132 #[.agg #[.int .i64 a, .int .i64 b, .int .i64 c, .slice ao L.length cap]] w fun e w' => RetL ns q e w' ∧ Below w.heap.size w w' := by
  have hlen := fld_len hr
  obtain ⟨bl, off, rfl, h2⟩ := fld_some hr h
  obtain ⟨i0, hi, hz0, hz1, hz2⟩ := info_parts infoI
  have HV := Lib.hid (fldR_ok hr).2.2
  have H := Lib.hid h2
  have HQ := Lib.hid hq
  clear h h2 hr hq
  go_enter Tryz.func132, Tryz.ntmps132
  go_wp2
  have fb : FBox (w.alloc (.cells #[.int .i64 a, .int .i64 b, .int .i64 c, .slice (some ⟨bl, off, none⟩) L.length cap] 25)) w.heap.size a b c (.slice (some ⟨bl, off, none⟩) L.length cap) := ⟨by simp [go_sem], by simp [go_sem], by simp [go_sem], by simp [go_sem], by simp⟩
  have hB : Below w.heap.size w (w.alloc (.cells #[.int .i64 a, .int .i64 b, .int .i64 c, .slice (some ⟨bl, off, none⟩) L.length cap] 25)) := by repeat (first | (with_reducible exact Below.refl _ _) | (with_reducible refine Below.setCell ?_ ?_ _) | (with_reducible refine Below.drew ?_) | (with_reducible refine Below.alloc ?_ ?_ _) | omega | (simp <;> omega))
  go_loopw [4, 5, 6, 7, 8] (fun f q _ _ _ wr => ∃ (k : Nat) (ms : List Int) (v : Value), k ≤ L.length ∧ q = .int .i64 k ∧ Hid (Nums L ms k) ∧ v = f ∧ Hid (wr.ownsRow (w.heap.size + 1) 3 1 v k (ms.map vi)) ∧ FBox wr w.heap.size a b c (.slice (some ⟨bl, off, none⟩) L.length cap) ∧ Below w.heap.size w wr) (fun _ q _ _ _ _ => L.length - (intOf q).toNat)
  case atStart => exact ⟨0, [], _, by omega, rfl, Lib.hid ⟨rfl, fun i x h => by omega⟩, rfl, Lib.hid (World.ownsRow_nil _ _ _ _), fb, hB⟩
  case round =>
    obtain ⟨k, ms, v, hk, rfl, hms, rfl, hown1, fb1, hb⟩ := hrel
    clear fb hB
    have hbs := hb.size
    have hlb := fb1.lt
    have FB := Lib.hid fb1
    obtain ⟨f0, f1, f2, f3, fl⟩ := fb1
    by_cases hlt : k < L.length
    · have hx : L[k]? = some L[k] := List.getElem?_eq_getElem hlt
      have hvx := (HV.out k _ hx).1
      obtain ⟨l0, l1, l2, l3, l4⟩ := H.out.later hb k _ hx
      obtain ⟨n, bq, hn⟩ := NumR.ex L[k]
      generalize L[k] = x at *
      have c2 := fun W : World => refNumber_ok x n bq W hvx hn
      cases bq with
      | true =>
        have hnext := Lib.hid (nums_snoc hms.out hx hn)
        clear hvx hx hms hn
        go_wp2_with (first | ((with_reducible refine (c2 _).mono ?_); clear c2; rintro e w3 ⟨rfl, hw3⟩; have s3 := hw3.size) | (at_builtin; refine wpList_append_own _ rfl (.tmp 28) (.tmp 30) 67 rfl (w.heap.size + 1) 3 i0 _ 1 8 Tryz.underlying67 hi hz0 hz1 hz2 rfl (by decide) v k (ms.map vi) rfl ((owned_later hown1.out hw3).alloc _) ⟨w3.heap.size, 0, none⟩ 1 1 [vi n] rfl rfl (one_cell (by simp [go_sem, vi])) (one_one _) (by unfold maxLen; omega) (by omega) (by simp; omega) ?_; intro v' w4 hown4 hgrow4 _))
        have hfr := owned_from hown1.out
        have hne := owned_ne hown1.out (b := w.heap.size) (by omega)
        have hb3 : Below w.heap.size w w3 := by repeat (first | (with_reducible exact Below.refl _ _) | (with_reducible refine Below.setCell ?_ ?_ _) | (with_reducible refine Below.drew ?_) | (with_reducible refine Below.alloc ?_ ?_ _) | (with_reducible refine Below.trans ?_ (Below.mono hw3 ?_)) | (with_reducible refine Below.trans ?_ (Below.mono hb ?_)) | (with_reducible exact hw3.size) | (with_reducible exact hb.size) | omega | (simp <;> omega) | (simp <;> (have s := hw3.size; omega)) | (simp <;> (have s := hb.size; omega)) | (have s0 := hw3.size; (try simp at s0); have s1 := hb.size; (try simp at s1); (try simp); omega))
        have hb4 := (hb3.alloc hb3.size _).grown hgrow4 (by have := hb3.size; simp; omega) (fun j hj => by have := hfr j hj; omega)
        have fb4 := ((FB.out.later hw3).later ((Below.refl _ _).alloc (Nat.le_refl _) _)).grown hgrow4 hne
        have ho : w4.ownsRow (w.heap.size + 1) 3 1 v' (k + 1) ((ms ++ [n]).map vi) := by
          rw [List.map_append]
          exact hown4
        clear hown4 hgrow4 hown1 hw3
        go_wp2
        exact ⟨⟨k + 1, ms ++ [n], _, by omega, by go_num, hnext, rfl, Lib.hid ho, fb4, hb4⟩, by simp [intOf]; omega⟩
      | false =>
        obtain ⟨hq1, hq2⟩ := sm_bad HQ.out hx hn
        have HQ1 := Lib.hid hq1
        clear hvx hx hms hn hq1 hq2 HQ
        go_wp2_with ((with_reducible refine (c2 _).mono ?_); clear c2; rintro e w3 ⟨rfl, hw3⟩)
        go_ret2
        exact ⟨.inr ⟨HQ1.out, rfl⟩, by repeat (first | (with_reducible exact Below.refl _ _) | (with_reducible refine Below.setCell ?_ ?_ _) | (with_reducible refine Below.drew ?_) | (with_reducible refine Below.alloc ?_ ?_ _) | (with_reducible refine Below.trans ?_ (Below.mono hw3 ?_)) | (with_reducible refine Below.trans ?_ (Below.mono hb ?_)) | (with_reducible exact hw3.size) | (with_reducible exact hb.size) | omega | (simp <;> omega) | (simp <;> (have s := hw3.size; omega)) | (simp <;> (have s := hb.size; omega)) | (have s0 := hw3.size; (try simp at s0); have s1 := hb.size; (try simp at s1); (try simp); omega))⟩
    · obtain rfl : k = L.length := by omega
      obtain ⟨hq1, hq2⟩ := sm_end HQ.out hms.out
      have hml := hms.out.1
      have hown' : wr.ownsRow (w.heap.size + 1) 3 1 v ms.length (ms.map vi) := by
        rw [hml]
        exact hown1.out
      obtain ⟨ao, c', rfl, hli⟩ := owned_liesOI hown'
      have HQ1 := Lib.hid hq1
      have HQ2 := Lib.hid hq2
      clear hown1 hown' hq1 hq2 hml hms HQ
      go_wp2
      go_ret2
      exact ⟨.inl ⟨HQ1.out, ao, c', by rw [HQ2.out]; rfl, by rw [HQ2.out]; exact hli⟩, hb⟩

end Go.Proofs.YtpfhjdmgkckjfaaGreatDoor
