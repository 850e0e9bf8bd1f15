/- Paths without steps that undo each other, as the program and the document's answers make them.
Conditions: the list lies in memory as it is written at each theorem. -/
import Derived.Test.YtmmkhkkmgjighaaPathB
namespace Go.Proofs.Ytmmkhkkmgjighaa
set_option linter.unusedVariables false
set_option linter.unusedSimpArgs false
set_option maxRecDepth 1000000
open Go.RowKit
open Tm

/-- the list that a stack lies as -/
def stl (st : List Int) : List Value := st.reverse.map vi
theorem stl_cons (x : Int) (st : List Int) : stl (x :: st) = stl st ++ [vi x] := by simp [stl]
theorem stl_top (x : Int) (st : List Int) : (stl (x :: st))[st.length]? = some (vi x) := by
  rw [stl_cons, List.getElem?_append_right (by simp [stl])]
  simp [stl]
theorem stl_take (x : Int) (st : List Int) : (stl (x :: st)).take st.length = stl st := by
  rw [stl_cons]
  exact List.take_left' (by simp [stl])

set_option maxHeartbeats 3200000 in
theorem reduce_some (b off cap : Nat) (l : List Int) (w : World) (h : LiesI w b off l) (hs : ∀ t ∈ l, IsStep t) (h8 : l.length ≤ 8) : Calls Try.prog 80 #[.slice (some ⟨b, off, none⟩) l.length cap] w fun e w' => ∃ ao c, e = .returned (.tuple #[.slice ao (red l).length c, .int .i64 0]) ∧ LiesOI w' ao (red l) ∧ Below w.heap.size w w' := by
  have c1 : ∀ W : World, LiesI W b off l → Calls Try.prog 74 #[.slice (some ⟨b, off, none⟩) l.length cap] W fun e w' => e = .returned (.int .i64 0) ∧ Below W.heap.size W w' := fun W h => checkPath_some b off cap l 0 W h (.inr (.inr ⟨h8, hs, rfl⟩)) (by omega)
  obtain ⟨i0, hi, hz0, hz1, hz2⟩ := info_parts infoI
  have H := Lib.hid h
  have HS := Lib.hid hs
  have hl2 : l.length ≤ maxLen := by unfold maxLen; omega
  have hl3 : i0.bytes * l.length ≤ 281474976710656 := by rw [hz2]; omega
  clear h hs
  go_enter Try.func80, Try.ntmps80
  go_wp2_with (first | ((with_reducible refine (c1 _ H.out).mono ?_); rintro e w1 ⟨rfl, hw1⟩; have s1 := hw1.size) | (at_make; refine wpList_make_own _ rfl _ _ 39 rfl w1.heap.size 3 i0 _ 1 Try.underlying39 hi hz0 hz1 _ _ _ l.length rfl rfl rfl hl3 hl2 (Nat.le_refl _) ?_; intro w2 hown hgrow))
  have hb2 : Below w.heap.size w w2 := hw1.grown hgrow (by omega) (by simp)
  have s2 := hgrow.size
  clear hgrow hw1
  generalize w1.heap.size = g at *
  go_loopw [5, 7, 8, 19] (fun f _ _ q wr => ∃ (k : Nat) (st : List Int), k ≤ l.length ∧ q = .int .i64 k ∧ Hid (st = redS (l.take k)) ∧ st.length ≤ k ∧ f = .slice (some ⟨g, 0, none⟩) st.length l.length ∧ Hid (wr.ownsRow g 3 1 (.slice (some ⟨g, 0, none⟩) st.length l.length) st.length (stl st)) ∧ Below w.heap.size w wr ∧ g ≤ wr.heap.size) (fun _ _ _ q _ => l.length - (intOf q).toNat)
  case atStart => exact ⟨0, [], by omega, rfl, Lib.hid rfl, by simp, rfl, Lib.hid hown, hb2, s2⟩
  case round =>
    obtain ⟨k, st, hk, rfl, hst, hsk, rfl, hown1, hb, hgs⟩ := hrel
    clear hown hb2 s2
    have hbs := hb.size
    by_cases hlt : k < l.length
    · have x1 := H.out.later hb k _ (List.getElem?_eq_getElem hlt)
      have hstp := HS.out _ (List.getElem_mem hlt)
      have hnext := redS_step l k hlt
      rw [← hst.out] at hnext
      obtain ⟨t0, t1, t2⟩ := hstp
      have lb : b < wr.heap.size := World.block_lt_of_cell? wr _ x1
      generalize l[k] = t at *
      have HN := Lib.hid hnext
      clear hnext hst
      have HO := hown1
      have hcase : (∃ x st', st = x :: st' ∧ x = -t) ∨ ((st = [] ∨ ∃ x st', st = x :: st' ∧ x ≠ -t) ∧ push st t = t :: st) := by
        cases st with
        | nil => exact .inr ⟨.inl rfl, rfl⟩
        | cons x st' =>
          by_cases he : x = -t
          · exact .inl ⟨x, st', rfl, he⟩
          · exact .inr ⟨.inr ⟨x, st', rfl, he⟩, by simp only [push]; rw [if_neg he]⟩
      rcases hcase with ⟨x, st, rfl, rfl⟩ | ⟨hcase, hpush⟩
      · have hp : push (-t :: st) t = st := by simp [push]
        have hcell := (HO.out.cellAt st.length (by simp)).trans (stl_top (-t) st)
        have ho2 := owned_shrink HO.out (m := st.length) (by simp)
        rw [stl_take] at ho2
        have HO2 := Lib.hid ho2
        have hN2 : Hid (st = redS (l.take (k + 1))) := Lib.hid (by rw [HN.out, hp])
        have hsk2 : st.length + 1 ≤ k := by simpa using hsk
        simp only [List.length_cons] at *
        unfold vi at hcell
        clear ho2 hown1 HO HN hp hsk
        go_wp2
        exact ⟨⟨k + 1, st, by omega, by go_num, hN2, by omega, rfl, HO2, hb, hgs⟩, by simp [intOf]; omega⟩
      · have hN2 : Hid (t :: st = redS (l.take (k + 1))) := Lib.hid (by rw [HN.out, hpush])
        clear HN hpush hown1
        rcases hcase with rfl | ⟨x, st', rfl, hne⟩
        · go_wp2_with (at_builtin; refine wpList_append_fits _ rfl (.tmp 40) (.tmp 42) 39 rfl g 3 i0 1 Try.underlying39 hi hz1 g 0 l.length (stl []) rfl (HO.out.alloc _) ⟨wr.heap.size, 0, none⟩ 1 1 [vi t] rfl rfl (one_cell (by simp [go_sem, vi])) (one_one _) (by omega) ?_; intro w4 hown4 hgrow4)
          have hb4 := (hb.alloc hbs _).grown hgrow4 (by simp <;> omega) (fun j hj => by simp at hj; omega)
          have s4 := hgrow4.size
          simp at s4
          rw [← stl_cons] at hown4
          clear HO hgrow4
          go_wp2
          exact ⟨⟨k + 1, [t], by omega, by go_num, hN2, by simp, rfl, Lib.hid hown4, hb4, by omega⟩, by simp [intOf]; omega⟩
        · have hcell := (HO.out.cellAt st'.length (by simp)).trans (stl_top x st')
          have hne' : (x == -t) = false := by simpa using hne
          simp only [List.length_cons] at *
          unfold vi at hcell
          clear hne
          go_wp2_with (at_builtin; refine wpList_append_fits _ rfl (.tmp 40) (.tmp 42) 39 rfl g 3 i0 1 Try.underlying39 hi hz1 g (st'.length + 1) l.length (stl (x :: st')) rfl (HO.out.alloc _) ⟨wr.heap.size, 0, none⟩ 1 1 [vi t] rfl rfl (one_cell (by simp [go_sem, vi])) (one_one _) (by omega) ?_; intro w4 hown4 hgrow4)
          have hb4 := (hb.alloc hbs _).grown hgrow4 (by simp <;> omega) (fun j hj => by simp at hj; omega)
          have s4 := hgrow4.size
          simp at s4
          rw [← stl_cons] at hown4
          clear HO hgrow4 hcell
          go_wp2
          exact ⟨⟨k + 1, t :: x :: st', by omega, by go_num, hN2, by simp; omega, rfl, Lib.hid hown4, hb4, by omega⟩, by simp [intOf]; omega⟩
    · obtain rfl : k = l.length := by omega
      have hst' : st = redS l := by have := hst.out; rwa [List.take_length] at this
      have hfin : wr.ownsRow g 3 1 (.slice (some ⟨g, 0, none⟩) (red l).length l.length) (red l).length ((red l).map vi) := by
        have := hown1.out
        rw [hst'] at this
        rw [red, List.length_reverse]
        exact this
      have hli := owned_liesI hfin
      have hle : (red l).length = st.length := by rw [red, List.length_reverse, hst']
      have HL := Lib.hid hle
      clear hown1 hfin hst hst' hle
      go_wp2
      go_ret2
      exact ⟨_, _, by rw [HL.out]; rfl, .inr ⟨g, 0, rfl, hli⟩, hb⟩

set_option maxHeartbeats 1600000 in
theorem reduce_nil (ao : Option Addr) (cap : Nat) (w : World) : Calls Try.prog 80 #[.slice ao 0 cap] w fun e w' => ∃ ao c, e = .returned (.tuple #[.slice ao 0 c, .int .i64 0]) ∧ Below w.heap.size w w' := by
  have c1 := fun W : World => checkPath_nil ao cap W
  have hmk : ∀ W, (Instr.makeSlice 39 (.int .i64 0) (.int .i64 0)).run Try.prog W = .ok (.slice (some ⟨W.heap.size, 0, none⟩) 0 0) (W.alloc (.cells #[] 3)) := fun _ => by kernel_rfl
  go_enter Try.func80, Try.ntmps80
  go_wp2_with ((with_reducible refine (c1 _).mono ?_); rintro e w1 ⟨rfl, hw1⟩)
  refine wp_loop_rounds 1 ?_
  rw [rounds_succ]
  go_wp2
  go_ret2
  exact ⟨_, _, rfl, by repeat (first | (with_reducible exact Below.refl _ _) | (with_reducible refine Below.setCell ?_ ?_ _) | (with_reducible refine Below.drew ?_) | (with_reducible refine Below.alloc ?_ ?_ _) | (with_reducible refine Below.trans ?_ (Below.mono hw1 ?_)) | (with_reducible exact hw1.size) | omega | (simp <;> omega) | (simp <;> (have s := hw1.size; omega)) | (have s0 := hw1.size; (try simp at s0); (try simp); omega))⟩

set_option maxHeartbeats 800000 in
theorem reduce_bad (ao : Option Addr) (cap : Nat) (l : List Int) (r : Int) (w : World) (h : LiesOI w ao l) (hr : pathR l r) (h0 : r ≠ 0) (hlen : l.length ≤ 1000000) : Calls Try.prog 80 #[.slice ao l.length cap] w fun e w' => e = .returned (.tuple #[.slice none 0 0, .int .i64 r]) ∧ Below w.heap.size w w' := by
  have c1 : ∀ W : World, LiesOI W ao l → Calls Try.prog 74 #[.slice ao l.length cap] W fun e w' => e = .returned (.int .i64 r) ∧ Below W.heap.size W w' := fun W h => checkPath_any ao cap l r W h hr hlen
  have H := Lib.hid h
  have h0' : (r != 0) = true := by simpa using h0
  clear h hr h0
  go_enter Try.func80, Try.ntmps80
  go_wp2_with ((with_reducible refine (c1 _ H.out).mono ?_); rintro e w1 ⟨rfl, hw1⟩)
  go_ret2
  exact ⟨rfl, by repeat (first | (with_reducible exact Below.refl _ _) | (with_reducible refine Below.setCell ?_ ?_ _) | (with_reducible refine Below.drew ?_) | (with_reducible refine Below.alloc ?_ ?_ _) | (with_reducible refine Below.trans ?_ (Below.mono hw1 ?_)) | (with_reducible exact hw1.size) | omega | (simp <;> omega) | (simp <;> (have s := hw1.size; omega)) | (have s0 := hw1.size; (try simp at s0); (try simp); omega))⟩

theorem reduce_ok (ao : Option Addr) (cap : Nat) (l : List Int) (w : World) (h : LiesOI w ao l) (hs : ∀ t ∈ l, IsStep t) (h8 : l.length ≤ 8) : Calls Try.prog 80 #[.slice ao l.length cap] w fun e w' => ∃ ao c, e = .returned (.tuple #[.slice ao (red l).length c, .int .i64 0]) ∧ LiesOI w' ao (red l) ∧ Below w.heap.size w w' := by
  rcases h with rfl | ⟨b, off, rfl, h⟩
  · exact (reduce_nil ao cap w).mono fun e w' ⟨a, c, he, hb⟩ => ⟨a, c, he, .inl rfl, hb⟩
  · exact reduce_some b off cap l w h hs h8

theorem owned_some {w : World} {base : Nat} {T : TypeId} {v : Value} {n : Nat} {xs : List Value} (h : w.ownsRow base T 1 v n xs) (hn : 0 < n) : ∃ g cap, v = .slice (some ⟨g, 0, none⟩) n cap ∧ base ≤ g := by
  rcases h.2 with ⟨rfl, h0⟩ | ⟨g, cap, cur, rfl, hg, _⟩
  · omega
  · exact ⟨g, cap, rfl, hg⟩
theorem owned_zero {w : World} {base : Nat} {T : TypeId} {v : Value} {xs : List Value} (h : w.ownsRow base T 1 v 0 xs) : ∃ ao cap, v = .slice ao 0 cap := by
  rcases h.2 with ⟨rfl, h0⟩ | ⟨g, cap, cur, rfl, hg, _⟩
  · exact ⟨none, 0, rfl⟩
  · exact ⟨_, cap, rfl⟩

set_option maxHeartbeats 3200000 in
theorem shorter_some (b off cap : Nat) (l : List Int) (w : World) (h : LiesI w b off l) (hs : ∀ t ∈ l, IsStep t) (h8 : l.length ≤ 8) : Calls Try.prog 111 #[.slice (some ⟨b, off, none⟩) l.length cap] w fun e w' => ∃ ao c, e = .returned (.slice ao (red l).length c) ∧ LiesOI w' ao (red l) ∧ Below w.heap.size w w' := by
  obtain ⟨i0, hi, hz0, hz1, hz2⟩ := info_parts infoI
  have H := Lib.hid h
  have HS := Lib.hid hs
  have kc := @Tail.cell_re
  have kc1 : ∀ (W : World) (o : Obj) (d : Nat) (os : Array Obj) (a : Addr), a.block ≤ W.heap.size → (Sort.grow (redrawn (W.alloc o) d) os).cell? a = (W.alloc o).cell? a := fun W o d os a h => Tail.cell_re (W.alloc o) d os a (Nat.lt_of_le_of_lt h (by simp))
  clear h hs
  go_enter Try.func111, Try.ntmps111
  go_wp2
  go_loopw [3, 4, 5] (fun f q _ wr => ∃ (k : Nat) (st : List Int) (v : Value), k ≤ l.length ∧ q = .int .i64 k ∧ Hid (st = redS (l.take k)) ∧ st.length ≤ k ∧ v = f ∧ Hid (wr.ownsRow w.heap.size 3 1 v st.length (stl st)) ∧ Below w.heap.size w wr) (fun _ q _ _ => l.length - (intOf q).toNat)
  case atStart => exact ⟨0, [], _, by omega, rfl, Lib.hid rfl, by simp, rfl, Lib.hid (World.ownsRow_nil _ _ _ _), Below.refl _ _⟩
  case round =>
    obtain ⟨k, st, v, hk, rfl, hst, hsk, rfl, hown1, hb⟩ := hrel
    have hbs := hb.size
    by_cases hlt : k < l.length
    · have x1 := H.out.later hb k _ (List.getElem?_eq_getElem hlt)
      have hstp := HS.out _ (List.getElem_mem hlt)
      have hnext := redS_step l k hlt
      rw [← hst.out] at hnext
      obtain ⟨t0, t1, t2⟩ := hstp
      have lb : b < wr.heap.size := World.block_lt_of_cell? wr _ x1
      generalize l[k] = t at *
      have HN := Lib.hid hnext
      clear hnext hst
      have HO := hown1
      have hcase : (∃ x st', st = x :: st' ∧ x = -t) ∨ ((st = [] ∨ ∃ x st', st = x :: st' ∧ x ≠ -t) ∧ push st t = t :: st) := by
        cases st with
        | nil => exact .inr ⟨.inl rfl, rfl⟩
        | cons x st' =>
          by_cases he : x = -t
          · exact .inl ⟨x, st', rfl, he⟩
          · exact .inr ⟨.inr ⟨x, st', rfl, he⟩, by simp only [push]; rw [if_neg he]⟩
      have hkl : (k : Int) < (l.length : Int) := by omega
      have en : IntKind.i64.wrap (-t) = -t := IntWalk.i64_in _ (by omega)
      have En := Lib.hid en
      clear en
      rcases hcase with ⟨x, st, rfl, rfl⟩ | ⟨hcase, hpush⟩
      · have hp : push (-t :: st) t = st := by simp [push]
        obtain ⟨g, cap', rfl, hgb⟩ := owned_some HO.out (by simp)
        have hcell := (HO.out.cellAt st.length (by simp)).trans (stl_top (-t) st)
        have ho2 := owned_shrink HO.out (m := st.length) (by simp)
        rw [stl_take] at ho2
        have HO2 := Lib.hid ho2
        have hN2 : Hid (st = redS (l.take (k + 1))) := Lib.hid (by rw [HN.out, hp])
        have hsk2 : st.length + 1 ≤ k := by simpa using hsk
        have lg : g < wr.heap.size := World.block_lt_of_cell? wr _ hcell
        have hcap : st.length + 1 ≤ cap' := by
          rcases HO.out.2 with ⟨h', _⟩ | ⟨g', cap2, cur, h', _, _, hnc, _⟩
          · simp at h'
          · simp at h'; simp at hnc; omega
        simp only [List.length_cons] at *
        unfold vi at hcell
        have ip : (0 : Int) < ((st.length + 1 : Nat) : Int) := by omega
        have e1 : IntKind.i64.wrap (((st.length + 1 : Nat) : Int) - 1) = (st.length : Int) := by rw [IntWalk.i64_in _ (by omega)]; omega
        have e1' : IntKind.i64.wrap ((st.length : Int) + 1 - 1) = (st.length : Int) := by rw [IntWalk.i64_in _ (by omega)]; omega
        have il : (st.length : Int) < (st.length : Int) + 1 := by omega
        have i0' : (0 : Int) ≤ (st.length : Int) := by omega
        clear ho2 hown1 HO HN hp hsk
        go_wp2
        refine Tail.region_below (by kernel_rfl) (by kernel_rfl) ?_
        have en := En.out
        repeat (go_big_quiet_step (fail))
        refine wpQuiet_nil ?_
        intro w1 hw1
        have ho3 := owned_later HO2.out hw1
        clear HO2
        go_wp2
        exact ⟨⟨k + 1, st, _, by omega, by go_num, hN2, by omega, rfl, Lib.hid ho3, by repeat (first | (with_reducible exact Below.refl _ _) | (with_reducible refine Below.setCell ?_ ?_ _) | (with_reducible refine Below.drew ?_) | (with_reducible refine Below.alloc ?_ ?_ _) | (with_reducible refine Below.trans ?_ (Below.mono hw1 ?_)) | (with_reducible refine Below.trans ?_ (Below.mono hb ?_)) | (with_reducible exact hw1.size) | (with_reducible exact hb.size) | omega | (simp <;> omega) | (simp <;> (have s := hw1.size; omega)) | (simp <;> (have s := hb.size; omega)) | (have s0 := hw1.size; (try simp at s0); have s1 := hb.size; (try simp at s1); (try simp); omega))⟩, by simp [intOf]; omega⟩
      · have hN2 : Hid (t :: st = redS (l.take (k + 1))) := Lib.hid (by rw [HN.out, hpush])
        clear HN hpush hown1
        rcases hcase with rfl | ⟨x, st', rfl, hne⟩
        · obtain ⟨ao', cap', rfl⟩ := owned_zero HO.out
          go_wp2
          refine Tail.region_below (by kernel_rfl) (by kernel_rfl) ?_
          repeat (go_big_quiet_step (fail))
          refine wpQuiet_nil ?_
          intro w1 hw1
          have ho3 := owned_later HO.out hw1
          have x2 := (hw1.cell (p := ⟨b, off + k, none⟩) lb).trans x1
          have hb1 : Below w.heap.size w w1 := by repeat (first | (with_reducible exact Below.refl _ _) | (with_reducible refine Below.setCell ?_ ?_ _) | (with_reducible refine Below.drew ?_) | (with_reducible refine Below.alloc ?_ ?_ _) | (with_reducible refine Below.trans ?_ (Below.mono hw1 ?_)) | (with_reducible refine Below.trans ?_ (Below.mono hb ?_)) | (with_reducible exact hw1.size) | (with_reducible exact hb.size) | omega | (simp <;> omega) | (simp <;> (have s := hw1.size; omega)) | (simp <;> (have s := hb.size; omega)) | (have s0 := hw1.size; (try simp at s0); have s1 := hb.size; (try simp at s1); (try simp); omega))
          have hb1s := hb1.size
          clear HO
          go_wp2_with (at_builtin; refine wpList_append_own _ rfl (.tmp 33) (.tmp 38) 39 rfl w.heap.size 3 i0 _ 1 8 Try.underlying39 hi hz0 hz1 hz2 rfl (by decide) (.slice ao' 0 cap') 0 (stl []) rfl (ho3.alloc _) ⟨w1.heap.size, 0, none⟩ 1 1 [vi t] rfl rfl (one_cell (by simp [go_sem, vi])) (one_one _) (by unfold maxLen; omega) (by omega) (by simp <;> omega) ?_; intro v' w4 hown4 hgrow4 _)
          have hfr := owned_from ho3
          have hb4 := (hb1.alloc hb1s _).grown hgrow4 (by simp <;> omega) (fun j hj => by have := hfr j hj; omega)
          rw [← stl_cons] at hown4
          clear hgrow4 ho3
          go_wp2
          exact ⟨⟨k + 1, [t], _, by omega, by go_num, hN2, by simp, rfl, Lib.hid hown4, hb4⟩, by simp [intOf]; omega⟩
        · obtain ⟨g, cap', rfl, hgb⟩ := owned_some HO.out (by simp)
          have hcell := (HO.out.cellAt st'.length (by simp)).trans (stl_top x st')
          have lg : g < wr.heap.size := World.block_lt_of_cell? wr _ hcell
          have hne' : (x == -t) = false := by simpa using hne
          simp only [List.length_cons] at *
          unfold vi at hcell
          have ip : (0 : Int) < ((st'.length + 1 : Nat) : Int) := by omega
          have e1 : IntKind.i64.wrap (((st'.length + 1 : Nat) : Int) - 1) = (st'.length : Int) := by rw [IntWalk.i64_in _ (by omega)]; omega
          have e1' : IntKind.i64.wrap ((st'.length : Int) + 1 - 1) = (st'.length : Int) := by rw [IntWalk.i64_in _ (by omega)]; omega
          have il : (st'.length : Int) < (st'.length : Int) + 1 := by omega
          have i0' : (0 : Int) ≤ (st'.length : Int) := by omega
          clear hne
          go_wp2
          refine Tail.region_below (by kernel_rfl) (by kernel_rfl) ?_
          have en := En.out
          repeat (go_big_quiet_step (fail))
          refine wpQuiet_nil ?_
          intro w1 hw1
          have ho3 := owned_later HO.out hw1
          have x2 := (hw1.cell (p := ⟨b, off + k, none⟩) lb).trans x1
          have hb1 : Below w.heap.size w w1 := by repeat (first | (with_reducible exact Below.refl _ _) | (with_reducible refine Below.setCell ?_ ?_ _) | (with_reducible refine Below.drew ?_) | (with_reducible refine Below.alloc ?_ ?_ _) | (with_reducible refine Below.trans ?_ (Below.mono hw1 ?_)) | (with_reducible refine Below.trans ?_ (Below.mono hb ?_)) | (with_reducible exact hw1.size) | (with_reducible exact hb.size) | omega | (simp <;> omega) | (simp <;> (have s := hw1.size; omega)) | (simp <;> (have s := hb.size; omega)) | (have s0 := hw1.size; (try simp at s0); have s1 := hb.size; (try simp at s1); (try simp); omega))
          have hb1s := hb1.size
          clear HO hcell x1 en e1 e1'
          go_wp2_with (at_builtin; refine wpList_append_own _ rfl (.tmp 33) (.tmp 38) 39 rfl w.heap.size 3 i0 _ 1 8 Try.underlying39 hi hz0 hz1 hz2 rfl (by decide) (.slice (some ⟨g, 0, none⟩) (st'.length + 1) cap') (st'.length + 1) (stl (x :: st')) rfl (ho3.alloc _) ⟨w1.heap.size, 0, none⟩ 1 1 [vi t] rfl rfl (one_cell (by simp [go_sem, vi])) (one_one _) (by unfold maxLen; omega) (by omega) (by simp <;> omega) ?_; intro v' w4 hown4 hgrow4 _)
          have hfr := owned_from ho3
          have hb4 := (hb1.alloc hb1s _).grown hgrow4 (by simp <;> omega) (fun j hj => by have := hfr j hj; omega)
          rw [← stl_cons] at hown4
          clear hgrow4 ho3
          go_wp2
          exact ⟨⟨k + 1, t :: x :: st', _, by omega, by go_num, hN2, by simp; omega, rfl, Lib.hid hown4, hb4⟩, by simp [intOf]; omega⟩
    · obtain rfl : k = l.length := by omega
      have hst' : st = redS l := by have := hst.out; rwa [List.take_length] at this
      have hfin : wr.ownsRow w.heap.size 3 1 v (red l).length ((red l).map vi) := by
        have := hown1.out
        rw [hst'] at this
        rw [red, List.length_reverse]
        exact this
      obtain ⟨ao, c, rfl, hli⟩ := owned_liesOI hfin
      clear hown1 hfin hst hst'
      go_wp2
      go_ret
      exact ⟨_, _, rfl, hli, hb⟩

set_option maxHeartbeats 800000 in
theorem shorter_nil (ao : Option Addr) (cap : Nat) (w : World) : Calls Try.prog 111 #[.slice ao 0 cap] w fun e w' => e = .returned (.slice none 0 0) ∧ Below w.heap.size w w' := by
  go_enter Try.func111, Try.ntmps111
  go_wp2
  refine wp_loop_rounds 1 ?_
  rw [rounds_succ]
  go_wp2
  go_ret
  exact ⟨rfl, Below.refl _ _⟩

theorem shorter_any (ao : Option Addr) (cap : Nat) (l : List Int) (w : World) (h : LiesOI w ao l) (hs : ∀ t ∈ l, IsStep t) (h8 : l.length ≤ 8) : Calls Try.prog 111 #[.slice ao l.length cap] w fun e w' => ∃ ao c, e = .returned (.slice ao (red l).length c) ∧ LiesOI w' ao (red l) ∧ Below w.heap.size w w' := by
  rcases h with rfl | ⟨b, off, rfl, h⟩
  · exact (shorter_nil ao cap w).mono fun e w' ⟨he, hb⟩ => ⟨none, 0, he, .inl rfl, hb⟩
  · exact shorter_some b off cap l w h hs h8

end Go.Proofs.Ytmmkhkkmgjighaa
