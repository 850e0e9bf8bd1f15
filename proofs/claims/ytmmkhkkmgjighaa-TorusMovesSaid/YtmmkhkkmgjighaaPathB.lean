/- Paths from their ends, as the program and the document's answers make them.
Conditions: the list lies in memory as it is written at each theorem. -/
import Derived.Test.YtmmkhkkmgjighaaPathC
namespace Go.Proofs.Ytmmkhkkmgjighaa
set_option linter.unusedVariables false
set_option linter.unusedSimpArgs false
set_option maxRecDepth 1000000
open Go.RowKit
open Tm

theorem back_set (n k : Nat) (L : List Int) (x : Int) (hk : k < n) : ((List.replicate (n - k) (0 : Int) ++ L).map vi).set (n - 1 - k) (vi x) = (List.replicate (n - (k + 1)) (0 : Int) ++ x :: L).map vi := by
  have e : n - k = n - (k + 1) + 1 := by omega
  have e2 : n - 1 - k = n - (k + 1) := by omega
  rw [← List.map_set, e, e2, List.replicate_succ', List.append_assoc, List.set_append_right _ _ (by simp)]
  simp
theorem back_get (n k : Nat) (L : List Int) (hk : k < n) : ((List.replicate (n - k) (0 : Int) ++ L).map vi)[n - 1 - k]? = some (.int .i64 0) := by
  rw [List.getElem?_map, List.getElem?_append_left (by simp; omega), List.getElem?_replicate, if_pos (by omega)]
  rfl

theorem made_one (v : Value) (n : Nat) : (madeCells #[v] n).toList = List.replicate n v := by
  rw [List.eq_replicate_iff]
  refine ⟨by simp [madeCells], fun b hb => ?_⟩
  simp only [madeCells, Array.toList_map, List.mem_map] at hb
  obtain ⟨i, _, rfl⟩ := hb
  have : i % (#[v] : Array Value).size = 0 := Nat.mod_one i
  rw [this]
  rfl

set_option maxHeartbeats 1600000 in
theorem back_some (b off cap : Nat) (l : List Int) (w : World) (h : LiesI w b off l) (hs : ∀ t ∈ l, IsStep t) (h8 : l.length ≤ 8) : Calls Try.prog 31 #[.slice (some ⟨b, off, none⟩) l.length cap] w fun e w' => ∃ ao c, e = .returned (.tuple #[.slice ao (opp l).length c, .int .i64 0]) ∧ LiesOI w' ao (opp l) ∧ Below w.heap.size w w' := by
  have c1 : ∀ W : World, LiesI W b off l → Calls Try.prog 74 #[.slice (some ⟨b, off, none⟩) l.length cap] W fun e w' => e = .returned (.int .i64 0) ∧ Below W.heap.size W w' := fun W h => checkPath_some b off cap l 0 W h (.inr (.inr ⟨h8, hs, rfl⟩)) (by omega)
  obtain ⟨i0, hi, hz0, hz1, hz2⟩ := info_parts infoI
  have H := Lib.hid h
  have HS := Lib.hid hs
  have hl2 : l.length ≤ maxLen := by unfold maxLen; omega
  have hl3 : i0.bytes * l.length ≤ 281474976710656 := by rw [hz2]; omega
  clear h hs
  go_enter Try.func31, Try.ntmps31
  go_wp2_with (first | ((with_reducible refine (c1 _ H.out).mono ?_); rintro e w1 ⟨rfl, hw1⟩; have s1 := hw1.size) | (at_make; refine wpList_make_full _ rfl _ _ 39 rfl w1.heap.size 3 i0 _ 1 Try.underlying39 hi hz0 hz1 _ _ _ _ l.length rfl rfl rfl rfl hl3 hl2 (Nat.le_refl _) ?_; intro w2 hown hgrow))
  have hown' : w2.ownsRow w1.heap.size 3 1 (.slice (some ⟨w1.heap.size, 0, none⟩) l.length l.length) l.length ((List.replicate (l.length - 0) (0 : Int) ++ opp (l.take 0)).map vi) := by
    have e : (madeCells (Value.int .i64 0).cells (l.length * 1)).toList = (List.replicate (l.length - 0) (0 : Int) ++ opp (l.take 0)).map vi := by
      rw [show (Value.int .i64 0).cells = #[Value.int .i64 0] from rfl, made_one]
      simp [opp, vi]
    rwa [e] at hown
  have hb2 : Below w.heap.size w w2 := hw1.grown hgrow (by omega) (by simp)
  have s2 := hgrow.size
  clear hown hgrow hw1
  generalize w1.heap.size = g at *
  go_loopw [6, 7, 18] (fun _ _ q wr => ∃ k : Nat, k ≤ l.length ∧ q = .int .i64 k ∧ Hid (wr.ownsRow g 3 1 (.slice (some ⟨g, 0, none⟩) l.length l.length) l.length ((List.replicate (l.length - k) (0 : Int) ++ opp (l.take k)).map vi)) ∧ Below w.heap.size w wr ∧ g ≤ wr.heap.size) (fun _ _ q _ => l.length - (intOf q).toNat)
  case atStart => exact ⟨0, by omega, rfl, Lib.hid hown', hb2, s2⟩
  case round =>
    obtain ⟨k, hk, rfl, hown, hb, hgs⟩ := hrel
    clear hown' hb2 s2
    by_cases hlt : k < l.length
    · have x1 := H.out.later hb k _ (List.getElem?_eq_getElem hlt)
      have hst := HS.out _ (List.getElem_mem hlt)
      have hop := opp_step l k hlt
      have hset := back_set l.length k (opp (l.take k)) (-l[k]) hlt
      rw [← hop] at hset
      have hcell := (hown.out.cellAt (l.length - 1 - k) (by omega)).trans (back_get l.length k (opp (l.take k)) hlt)
      have hfree := hown.out.frozenAt (l.length - 1 - k)
      have hsto := hown.out.stored (l.length - 1 - k) (vi (-l[k]))
      rw [hset] at hsto
      obtain ⟨hown2, hgr2⟩ := hsto
      have hO := Lib.hid hown2
      have hG := Lib.hid hgr2
      obtain ⟨t0, t1, t2⟩ := hst
      clear hop hset hown2 hgr2 hown
      generalize l[k] = x at *
      have hbs := hb.size
      go_wp2
      exact ⟨⟨k + 1, by omega, by go_num, Lib.hid hO.out, hb.grown hG.out hbs (fun j hj => by simp at hj; omega), by simp [World.setCell]; omega⟩, by simp [intOf]; omega⟩
    · obtain rfl : k = l.length := by omega
      have hfin : wr.ownsRow g 3 1 (.slice (some ⟨g, 0, none⟩) (opp l).length l.length) (opp l).length ((opp l).map vi) := by
        have := hown.out
        rw [Nat.sub_self, List.replicate_zero, List.nil_append, List.take_length] at this
        rw [opp_len]
        exact this
      have hli := owned_liesI hfin
      clear hown hfin
      go_wp2
      go_ret2
      exact ⟨_, _, by rw [opp_len]; rfl, .inr ⟨g, 0, rfl, hli⟩, hb⟩

set_option maxHeartbeats 1600000 in
theorem back_nil (ao : Option Addr) (cap : Nat) (w : World) : Calls Try.prog 31 #[.slice ao 0 cap] w fun e w' => ∃ ao c, e = .returned (.tuple #[.slice ao 0 c, .int .i64 0]) ∧ Below w.heap.size w w' := by
  have c1 := fun W : World => checkPath_nil ao cap W
  have hmk : ∀ W, (Instr.makeSlice 39 (.int .i64 0) (.int .i64 0)).run Try.prog W = .ok (.slice (some ⟨W.heap.size, 0, none⟩) 0 0) (W.alloc (.cells #[] 3)) := fun _ => by kernel_rfl
  go_enter Try.func31, Try.ntmps31
  go_wp2_with ((with_reducible refine (c1 _).mono ?_); rintro e w1 ⟨rfl, hw1⟩)
  refine wp_loop_rounds 1 ?_
  rw [rounds_succ]
  go_wp2
  go_ret2
  exact ⟨_, _, rfl, by repeat (first | (with_reducible exact Below.refl _ _) | (with_reducible refine Below.setCell ?_ ?_ _) | (with_reducible refine Below.drew ?_) | (with_reducible refine Below.alloc ?_ ?_ _) | (with_reducible refine Below.trans ?_ (Below.mono hw1 ?_)) | (with_reducible exact hw1.size) | omega | (simp <;> omega) | (simp <;> (have s := hw1.size; omega)) | (have s0 := hw1.size; (try simp at s0); (try simp); omega))⟩

set_option maxHeartbeats 800000 in
theorem back_bad (ao : Option Addr) (cap : Nat) (l : List Int) (r : Int) (w : World) (h : LiesOI w ao l) (hr : pathR l r) (h0 : r ≠ 0) (hlen : l.length ≤ 1000000) : Calls Try.prog 31 #[.slice ao l.length cap] w fun e w' => e = .returned (.tuple #[.slice none 0 0, .int .i64 r]) ∧ Below w.heap.size w w' := by
  have c1 : ∀ W : World, LiesOI W ao l → Calls Try.prog 74 #[.slice ao l.length cap] W fun e w' => e = .returned (.int .i64 r) ∧ Below W.heap.size W w' := fun W h => checkPath_any ao cap l r W h hr hlen
  have H := Lib.hid h
  have h0' : (r != 0) = true := by simpa using h0
  clear h hr h0
  go_enter Try.func31, Try.ntmps31
  go_wp2_with ((with_reducible refine (c1 _ H.out).mono ?_); rintro e w1 ⟨rfl, hw1⟩)
  go_ret2
  exact ⟨rfl, by repeat (first | (with_reducible exact Below.refl _ _) | (with_reducible refine Below.setCell ?_ ?_ _) | (with_reducible refine Below.drew ?_) | (with_reducible refine Below.alloc ?_ ?_ _) | (with_reducible refine Below.trans ?_ (Below.mono hw1 ?_)) | (with_reducible exact hw1.size) | omega | (simp <;> omega) | (simp <;> (have s := hw1.size; omega)) | (have s0 := hw1.size; (try simp at s0); (try simp); omega))⟩

set_option maxHeartbeats 1600000 in
theorem opposite_some (b off cap : Nat) (l : List Int) (w : World) (h : LiesI w b off l) (hs : ∀ t ∈ l, IsStep t) (h8 : l.length ≤ 8) : Calls Try.prog 112 #[.slice (some ⟨b, off, none⟩) l.length cap] w fun e w' => ∃ ao c, e = .returned (.slice ao (opp l).length c) ∧ LiesOI w' ao (opp l) ∧ Below w.heap.size w w' := by
  obtain ⟨i0, hi, hz0, hz1, hz2⟩ := info_parts infoI
  have H := Lib.hid h
  have HS := Lib.hid hs
  clear h hs
  go_enter Try.func112, Try.ntmps112
  go_wp2
  go_loopw [3, 4] (fun vv q wr => ∃ (k : Nat) (v : Value), k ≤ l.length ∧ q = .int .i64 ((k : Int) - 1) ∧ v = vv ∧ Hid (wr.ownsRow w.heap.size 3 1 v (opp (l.drop k)).length ((opp (l.drop k)).map vi)) ∧ Below w.heap.size w wr) (fun _ q _ => (intOf q + 1).toNat)
  case atStart => exact ⟨l.length, _, Nat.le_refl _, rfl, rfl, Lib.hid (by rw [List.drop_length]; exact World.ownsRow_nil _ _ _ _), Below.refl _ _⟩
  case round =>
    obtain ⟨k, v, hk, rfl, rfl, hown, hb⟩ := hrel
    have hbs := hb.size
    by_cases hk0 : k = 0
    · subst hk0
      have hown' : wr.ownsRow w.heap.size 3 1 v (opp l).length ((opp l).map vi) := by
        have := hown.out
        rwa [List.drop_zero] at this
      obtain ⟨ao, c, rfl, hl⟩ := owned_liesOI hown'
      clear hown hown'
      go_wp2
      go_ret
      exact ⟨_, _, rfl, hl, hb⟩
    · have hlt : k - 1 < l.length := by omega
      have x1 := H.out.later hb (k - 1) _ (List.getElem?_eq_getElem hlt)
      have hst := HS.out _ (List.getElem_mem hlt)
      have hop := opp_down l (k - 1) hlt
      rw [show k - 1 + 1 = k by omega] at hop
      obtain ⟨t0, t1, t2⟩ := hst
      generalize l[k - 1] = x at *
      have HO := Lib.hid hop
      have ei : ((k : Int) - 1) = ((k - 1 : Nat) : Int) := by omega
      have hlb : (opp (l.drop k)).length ≤ 8 := by rw [opp_len, List.length_drop]; omega
      have hlk : ((k - 1 : Nat) : Int) < (l.length : Int) := by omega
      have lb : b < wr.heap.size := World.block_lt_of_cell? wr _ x1
      clear hop
      rw [ei]
      obtain ⟨m, rfl⟩ : ∃ m, k = m + 1 := ⟨k - 1, by omega⟩
      simp only [Nat.add_sub_cancel] at *
      clear ei
      go_wp2_with (at_builtin; refine wpList_append_own _ rfl (.tmp 12) (.tmp 18) 39 rfl w.heap.size 3 i0 _ 1 8 Try.underlying39 hi hz0 hz1 hz2 rfl (by decide) v (opp (l.drop (m + 1))).length ((opp (l.drop (m + 1))).map vi) rfl (hown.out.alloc _) ⟨wr.heap.size, 0, none⟩ 1 1 [vi (-x)] rfl rfl (one_cell (by simp [go_sem, vi])) (one_one _) (by unfold maxLen; omega) (by omega) (by simp <;> omega) ?_; intro v' w4 hown4 hgrow4 _)
      have hfr := owned_from hown.out
      have hb4 := (hb.alloc hbs _).grown hgrow4 (by simp <;> omega) (fun j hj => by have := hfr j hj; omega)
      have ho : w4.ownsRow w.heap.size 3 1 v' (opp (l.drop m)).length ((opp (l.drop m)).map vi) := by
        rw [HO.out, List.length_append, List.map_append]
        exact hown4
      clear hown4 hgrow4 hown
      go_wp2
      exact ⟨⟨m, _, by omega, by go_num, rfl, Lib.hid ho, hb4⟩, by simp [intOf]⟩

set_option maxHeartbeats 800000 in
theorem opposite_nil (ao : Option Addr) (cap : Nat) (w : World) : Calls Try.prog 112 #[.slice ao 0 cap] w fun e w' => e = .returned (.slice none 0 0) ∧ Below w.heap.size w w' := by
  go_enter Try.func112, Try.ntmps112
  go_wp2
  refine wp_loop_rounds 1 ?_
  rw [rounds_succ]
  go_wp2
  go_ret
  exact ⟨rfl, Below.refl _ _⟩

theorem opposite_any (ao : Option Addr) (cap : Nat) (l : List Int) (w : World) (h : LiesOI w ao l) (hs : ∀ t ∈ l, IsStep t) (h8 : l.length ≤ 8) : Calls Try.prog 112 #[.slice ao l.length cap] w fun e w' => ∃ ao c, e = .returned (.slice ao (opp l).length c) ∧ LiesOI w' ao (opp l) ∧ Below w.heap.size w w' := by
  rcases h with rfl | ⟨b, off, rfl, h⟩
  · exact (opposite_nil ao cap w).mono fun e w' ⟨he, hb⟩ => ⟨none, 0, he, .inl rfl, hb⟩
  · exact opposite_some b off cap l w h hs h8

theorem back_ok (ao : Option Addr) (cap : Nat) (l : List Int) (w : World) (h : LiesOI w ao l) (hs : ∀ t ∈ l, IsStep t) (h8 : l.length ≤ 8) : Calls Try.prog 31 #[.slice ao l.length cap] w fun e w' => ∃ ao c, e = .returned (.tuple #[.slice ao (opp l).length c, .int .i64 0]) ∧ LiesOI w' ao (opp l) ∧ Below w.heap.size w w' := by
  rcases h with rfl | ⟨b, off, rfl, h⟩
  · exact (back_nil ao cap w).mono fun e w' ⟨a, c, he, hb⟩ => ⟨a, c, he, .inl rfl, hb⟩
  · exact back_some b off cap l w h hs h8
end Go.Proofs.Ytmmkhkkmgjighaa
