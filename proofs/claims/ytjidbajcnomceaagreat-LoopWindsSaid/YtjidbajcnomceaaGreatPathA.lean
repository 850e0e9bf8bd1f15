/- Which lists are paths, as the program and the document's answers find it.
Conditions: the list lies in memory as it is written at each theorem. -/
import Derived.Test.YtjidbajcnomceaaGreatInts
import Derived.Test.YtjidbajcnomceaaGreatMathA
namespace Go.Proofs.YtjidbajcnomceaaGreat
set_option linter.unusedVariables false
set_option linter.unusedSimpArgs false
set_option maxRecDepth 1000000
open Go.RowKit
open Tm

set_option maxHeartbeats 1600000 in
theorem checkPath_some (b off cap : Nat) (l : List Int) (r : Int) (w : World) (h : LiesI w b off l) (hr0 : pathR l r) (hlen : l.length ≤ 1000000) : Calls Tryz.prog 90 #[.slice (some ⟨b, off, none⟩) l.length cap] w fun e w' => e = .returned (.int .i64 r) ∧ Below w.heap.size w w' := by
  rcases hr0 with ⟨h8, rfl⟩ | hr0
  · have h8' : (8 : Int) < (l.length : Int) := by omega
    go_enter Tryz.func90, Tryz.ntmps90
    go_wp2
    go_ret
    exact ⟨rfl, Below.refl _ _⟩
  have h8 : l.length ≤ 8 := by rcases hr0 with h | h <;> exact h.1
  have hr : ((∃ t ∈ l, ¬ IsStep t) ∧ r = 1) ∨ ((∀ t ∈ l, IsStep t) ∧ r = 0) := by
    rcases hr0 with h | h
    · exact .inl h.2
    · exact .inr h.2
  have H := Lib.hid h
  have HR := Lib.hid hr
  have h8' : ¬ (8 : Int) < (l.length : Int) := by omega
  clear h hr hr0
  go_enter Tryz.func90, Tryz.ntmps90
  go_wp2
  go_loop [4, 10] (fun _ q => ∃ k : Nat, k ≤ l.length ∧ q = .int .i64 k ∧ Hid (∀ i x, i < k → l[i]? = some x → IsStep x)) (fun _ q => l.length - (intOf q).toNat)
  case atStart => exact ⟨0, by omega, rfl, Lib.hid (fun i x h => by omega)⟩
  case round =>
    obtain ⟨k, hk, rfl, hall⟩ := hrel
    have hr := HR.out
    by_cases hlt : k < l.length
    · have hx := H.out k _ (List.getElem?_eq_getElem hlt)
      have hm : l[k] ∈ l := List.getElem_mem hlt
      have g : l[k]? = some l[k] := List.getElem?_eq_getElem hlt
      generalize l[k] = x at *
      have HM := Lib.hid hm
      have HG := Lib.hid g
      clear hm g
      by_cases hs : IsStep x
      · have hnext : Hid (∀ i y, i < k + 1 → l[i]? = some y → IsStep y) := Lib.hid (fun i y hi hy => by
          by_cases he : i < k
          · exact hall.out i y he hy
          · obtain rfl : i = k := by omega
            have := HG.out.symm.trans hy
            simp only [Option.some.injEq] at this
            rw [← this]
            exact hs)
        have c1 := fun W : World => isStep_any x W true (.inl ⟨hs, rfl⟩)
        clear hs hall hr
        go_wp2_with ((with_reducible refine (c1 _).mono ?_); rintro e w1 ⟨rfl, rfl⟩)
        first | exact ⟨⟨k + 1, by omega, by go_num, hnext⟩, by simp [intOf]; omega⟩ | (go_round; case rel => exact ⟨k + 1, by omega, by go_num, hnext⟩; case measure => simp [intOf]; omega)
      · obtain rfl : r = 1 := by
          rcases hr with ⟨_, h⟩ | ⟨h, _⟩
          · exact h
          · exact absurd (h x HM.out) hs
        have c1 := fun W : World => isStep_any x W false (.inr ⟨hs, rfl⟩)
        clear hs hall hr
        go_wp2_with ((with_reducible refine (c1 _).mono ?_); rintro e w1 ⟨rfl, rfl⟩)
        go_ret
        exact ⟨rfl, Below.refl _ _⟩
    · obtain rfl : r = 0 := by
        rcases hr with ⟨⟨t, ht, hs⟩, _⟩ | ⟨_, h⟩
        · obtain ⟨i, hi, rfl⟩ := List.getElem_of_mem ht
          exact absurd (hall.out i _ (by omega) (List.getElem?_eq_getElem hi)) hs
        · exact h
      obtain rfl : k = l.length := by omega
      clear hall hr
      go_wp2
      go_ret
      exact ⟨rfl, Below.refl _ _⟩

set_option maxHeartbeats 800000 in
theorem checkPath_nil (ao : Option Addr) (cap : Nat) (w : World) : Calls Tryz.prog 90 #[.slice ao 0 cap] w fun e w' => e = .returned (.int .i64 0) ∧ Below w.heap.size w w' := by
  go_enter Tryz.func90, Tryz.ntmps90
  go_wp2
  refine wp_loop_rounds 1 ?_
  rw [rounds_succ]
  go_wp2
  go_ret
  exact ⟨rfl, Below.refl _ _⟩
theorem checkPath_any (ao : Option Addr) (cap : Nat) (l : List Int) (r : Int) (w : World) (h : LiesOI w ao l) (hr : pathR l r) (hlen : l.length ≤ 1000000) : Calls Tryz.prog 90 #[.slice ao l.length cap] w fun e w' => e = .returned (.int .i64 r) ∧ Below w.heap.size w w' := by
  rcases h with rfl | ⟨b, off, rfl, h⟩
  · obtain rfl : r = 0 := by
      rcases hr with ⟨h, _⟩ | ⟨_, ⟨t, ht, _⟩, _⟩ | ⟨_, _, h⟩
      · simp at h
      · simp at ht
      · exact h
    exact checkPath_nil ao cap w
  · exact checkPath_some b off cap l r w h hr hlen

set_option maxHeartbeats 1600000 in
theorem isPath_some (b off cap : Nat) (l : List Int) (r : Int) (w : World) (h : LiesI w b off l) (hr0 : pathR l r) (hlen : l.length ≤ 1000000) : Calls Tryz.prog 63 #[.slice (some ⟨b, off, none⟩) l.length cap] w fun e w' => e = .returned (.int .i64 r) ∧ Below w.heap.size w w' := by
  rcases hr0 with ⟨h8, rfl⟩ | hr0
  · have h8' : (8 : Int) < (l.length : Int) := by omega
    go_enter Tryz.func63, Tryz.ntmps63
    go_wp2
    go_ret
    exact ⟨rfl, Below.refl _ _⟩
  have h8 : l.length ≤ 8 := by rcases hr0 with h | h <;> exact h.1
  have hr : ((∃ t ∈ l, ¬ IsStep t) ∧ r = 1) ∨ ((∀ t ∈ l, IsStep t) ∧ r = 0) := by
    rcases hr0 with h | h
    · exact .inl h.2
    · exact .inr h.2
  have H := Lib.hid h
  have HR := Lib.hid hr
  have h8' : ¬ (8 : Int) < (l.length : Int) := by omega
  clear h hr hr0
  go_enter Tryz.func63, Tryz.ntmps63
  go_wp2
  go_loop [3] (fun q => ∃ k : Nat, k ≤ l.length ∧ q = .int .i64 k ∧ Hid (∀ i x, i < k → l[i]? = some x → IsStep x)) (fun q => l.length - (intOf q).toNat)
  case atStart => exact ⟨0, by omega, rfl, Lib.hid (fun i x h => by omega)⟩
  case round =>
    obtain ⟨k, hk, rfl, hall⟩ := hrel
    have hr := HR.out
    by_cases hlt : k < l.length
    · have hx := H.out k _ (List.getElem?_eq_getElem hlt)
      have hm : l[k] ∈ l := List.getElem_mem hlt
      have g : l[k]? = some l[k] := List.getElem?_eq_getElem hlt
      generalize l[k] = x at *
      have HM := Lib.hid hm
      have HG := Lib.hid g
      clear hm g
      by_cases hs : IsStep x
      · have hnext : Hid (∀ i y, i < k + 1 → l[i]? = some y → IsStep y) := Lib.hid (fun i y hi hy => by
          by_cases he : i < k
          · exact hall.out i y he hy
          · obtain rfl : i = k := by omega
            have := HG.out.symm.trans hy
            simp only [Option.some.injEq] at this
            rw [← this]
            exact hs)
        have c1 := fun W : World => within2_any x (-3) 3 W true (.inl ⟨hs.2.1, hs.2.2, rfl⟩)
        have x0 : (x == 0) = false := by simpa using hs.1
        clear hs hall hr
        go_wp2_with ((with_reducible refine (c1 _).mono ?_); rintro e w1 ⟨rfl, rfl⟩)
        first | exact ⟨⟨k + 1, by omega, by go_num, hnext⟩, by simp [intOf]; omega⟩ | (go_round; case rel => exact ⟨k + 1, by omega, by go_num, hnext⟩; case measure => simp [intOf]; omega)
      · obtain rfl : r = 1 := by
          rcases hr with ⟨_, h⟩ | ⟨h, _⟩
          · exact h
          · exact absurd (h x HM.out) hs
        have c1 : ∃ q, (∀ W : World, Calls Tryz.prog 98 #[.int .i64 x, .int .i64 (-3), .int .i64 3] W fun e w' => e = .returned (.bool q) ∧ W = w') ∧ (q = false ∨ (q = true ∧ x = 0)) := by
          by_cases h3 : -3 ≤ x ∧ x ≤ 3
          · exact ⟨true, fun W => within2_any x (-3) 3 W true (.inl ⟨h3.1, h3.2, rfl⟩), .inr ⟨rfl, Classical.byContradiction fun h0 => hs ⟨h0, h3.1, h3.2⟩⟩⟩
          · exact ⟨false, fun W => within2_any x (-3) 3 W false (.inr ⟨h3, rfl⟩), .inl rfl⟩
        obtain ⟨q, c1, hq⟩ := c1
        clear hs hall hr
        rcases hq with rfl | ⟨rfl, rfl⟩
        all_goals
          go_wp2_with ((with_reducible refine (c1 _).mono ?_); rintro e w1 ⟨rfl, rfl⟩)
          go_ret
          exact ⟨rfl, Below.refl _ _⟩
    · obtain rfl : r = 0 := by
        rcases hr with ⟨⟨t, ht, hs⟩, _⟩ | ⟨_, h⟩
        · obtain ⟨i, hi, rfl⟩ := List.getElem_of_mem ht
          exact absurd (hall.out i _ (by omega) (List.getElem?_eq_getElem hi)) hs
        · exact h
      obtain rfl : k = l.length := by omega
      clear hall hr
      go_wp2
      go_ret
      exact ⟨rfl, Below.refl _ _⟩

set_option maxHeartbeats 800000 in
theorem isPath_nil (ao : Option Addr) (cap : Nat) (w : World) : Calls Tryz.prog 63 #[.slice ao 0 cap] w fun e w' => e = .returned (.int .i64 0) ∧ Below w.heap.size w w' := by
  go_enter Tryz.func63, Tryz.ntmps63
  go_wp2
  refine wp_loop_rounds 1 ?_
  rw [rounds_succ]
  go_wp2
  go_ret
  exact ⟨rfl, Below.refl _ _⟩
theorem isPath_any (ao : Option Addr) (cap : Nat) (l : List Int) (r : Int) (w : World) (h : LiesOI w ao l) (hr : pathR l r) (hlen : l.length ≤ 1000000) : Calls Tryz.prog 63 #[.slice ao l.length cap] w fun e w' => e = .returned (.int .i64 r) ∧ Below w.heap.size w w' := by
  rcases h with rfl | ⟨b, off, rfl, h⟩
  · obtain rfl : r = 0 := by
      rcases hr with ⟨h, _⟩ | ⟨_, ⟨t, ht, _⟩, _⟩ | ⟨_, _, h⟩
      · simp at h
      · simp at ht
      · exact h
    exact isPath_nil ao cap w
  · exact isPath_some b off cap l r w h hr hlen
end Go.Proofs.YtjidbajcnomceaaGreat

/- Paths from their ends, as the program and the document's answers make them.
Conditions: the list lies in memory as it is written at each theorem. -/
namespace Go.Proofs.YtjidbajcnomceaaGreat
set_option linter.unusedVariables false
set_option linter.unusedSimpArgs false
set_option maxRecDepth 1000000
open Go.RowKit
open Tm

theorem back_set (n k : Nat) (L : List Int) (x : Int) (hk : k < n) : ((List.replicate (n - k) (0 : Int) ++ L).map vi).set (n - 1 - k) (vi x) = (List.replicate (n - (k + 1)) (0 : Int) ++ x :: L).map vi := by
  have e : n - k = n - (k + 1) + 1 := by omega
  have e2 : n - 1 - k = n - (k + 1) := by omega
  rw [← List.map_set, e, e2, List.replicate_succ', List.append_assoc, List.set_append_right _ _ (by simp)]
  simp
theorem back_get (n k : Nat) (L : List Int) (hk : k < n) : ((List.replicate (n - k) (0 : Int) ++ L).map vi)[n - 1 - k]? = some (.int .i64 0) := by
  rw [List.getElem?_map, List.getElem?_append_left (by simp; omega), List.getElem?_replicate, if_pos (by omega)]
  rfl

theorem made_one (v : Value) (n : Nat) : (madeCells #[v] n).toList = List.replicate n v := by
  rw [List.eq_replicate_iff]
  refine ⟨by simp [madeCells], fun b hb => ?_⟩
  simp only [madeCells, Array.toList_map, List.mem_map] at hb
  obtain ⟨i, _, rfl⟩ := hb
  have : i % (#[v] : Array Value).size = 0 := Nat.mod_one i
  rw [this]
  rfl

set_option maxHeartbeats 1600000 in
theorem back_some (b off cap : Nat) (l : List Int) (w : World) (h : LiesI w b off l) (hs : ∀ t ∈ l, IsStep t) (h8 : l.length ≤ 8) : Calls Tryz.prog 145 #[.slice (some ⟨b, off, none⟩) l.length cap] w fun e w' => ∃ ao c, e = .returned (.tuple #[.slice ao (opp l).length c, .int .i64 0]) ∧ LiesNI w' w.heap.size ao (opp l) ∧ (opp l).length ≤ c ∧ Below w.heap.size w w' := by
  have c1 : ∀ W : World, LiesI W b off l → Calls Tryz.prog 90 #[.slice (some ⟨b, off, none⟩) l.length cap] W fun e w' => e = .returned (.int .i64 0) ∧ Below W.heap.size W w' := fun W h => checkPath_some b off cap l 0 W h (.inr (.inr ⟨h8, hs, rfl⟩)) (by omega)
  obtain ⟨i0, hi, hz0, hz1, hz2⟩ := info_parts infoI
  have H := Lib.hid h
  have HS := Lib.hid hs
  have hl2 : l.length ≤ maxLen := by unfold maxLen; omega
  have hl3 : i0.bytes * l.length ≤ 281474976710656 := by rw [hz2]; omega
  clear h hs
  go_enter Tryz.func145, Tryz.ntmps145
  go_wp2_with (first | ((with_reducible refine (c1 _ H.out).mono ?_); rintro e w1 ⟨rfl, hw1⟩; have s1 := hw1.size) | (at_make; refine wpList_make_full _ rfl _ _ 26 rfl w1.heap.size 3 i0 _ 1 Tryz.underlying26 hi hz0 hz1 _ _ _ _ l.length rfl rfl rfl rfl hl3 hl2 (Nat.le_refl _) ?_; intro w2 hown hgrow))
  have hown' : w2.ownsRow w1.heap.size 3 1 (.slice (some ⟨w1.heap.size, 0, none⟩) l.length l.length) l.length ((List.replicate (l.length - 0) (0 : Int) ++ opp (l.take 0)).map vi) := by
    have e : (madeCells (Value.int .i64 0).cells (l.length * 1)).toList = (List.replicate (l.length - 0) (0 : Int) ++ opp (l.take 0)).map vi := by
      rw [show (Value.int .i64 0).cells = #[Value.int .i64 0] from rfl, made_one]
      simp [opp, vi]
    rwa [e] at hown
  have hb2 : Below w.heap.size w w2 := hw1.grown hgrow (by omega) (by simp)
  have s2 := hgrow.size
  clear hown hgrow hw1
  generalize w1.heap.size = g at *
  go_loopw [6, 7, 18] (fun _ _ q wr => ∃ k : Nat, k ≤ l.length ∧ q = .int .i64 k ∧ Hid (wr.ownsRow g 3 1 (.slice (some ⟨g, 0, none⟩) l.length l.length) l.length ((List.replicate (l.length - k) (0 : Int) ++ opp (l.take k)).map vi)) ∧ Below w.heap.size w wr ∧ g ≤ wr.heap.size) (fun _ _ q _ => l.length - (intOf q).toNat)
  case atStart => exact ⟨0, by omega, rfl, Lib.hid hown', hb2, s2⟩
  case round =>
    obtain ⟨k, hk, rfl, hown, hb, hgs⟩ := hrel
    clear hown' hb2 s2
    by_cases hlt : k < l.length
    · have x1 := H.out.later hb k _ (List.getElem?_eq_getElem hlt)
      have hst := HS.out _ (List.getElem_mem hlt)
      have hop := opp_step l k hlt
      have hset := back_set l.length k (opp (l.take k)) (-l[k]) hlt
      rw [← hop] at hset
      have hcell := (hown.out.cellAt (l.length - 1 - k) (by omega)).trans (back_get l.length k (opp (l.take k)) hlt)
      have hfree := hown.out.frozenAt (l.length - 1 - k)
      have hsto := hown.out.stored (l.length - 1 - k) (vi (-l[k]))
      rw [hset] at hsto
      obtain ⟨hown2, hgr2⟩ := hsto
      have hO := Lib.hid hown2
      have hG := Lib.hid hgr2
      obtain ⟨t0, t1, t2⟩ := hst
      clear hop hset hown2 hgr2 hown
      generalize l[k] = x at *
      have hbs := hb.size
      go_wp2
      exact ⟨⟨k + 1, by omega, by go_num, Lib.hid hO.out, hb.grown hG.out hbs (fun j hj => by simp at hj; omega), by simp [World.setCell]; omega⟩, by simp [intOf]; omega⟩
    · obtain rfl : k = l.length := by omega
      have hfin : wr.ownsRow g 3 1 (.slice (some ⟨g, 0, none⟩) (opp l).length l.length) (opp l).length ((opp l).map vi) := by
        have := hown.out
        rw [Nat.sub_self, List.replicate_zero, List.nil_append, List.take_length] at this
        rw [opp_len]
        exact this
      have hli := owned_liesI hfin
      have hfr := fun j => hfin.frozenAt j
      clear hown hfin
      go_wp2
      go_ret2
      exact ⟨_, _, by rw [opp_len]; rfl, .inr ⟨g, 0, rfl, s1, hfr, hli⟩, by rw [opp_len]; exact Nat.le_refl _, hb⟩

set_option maxHeartbeats 1600000 in
theorem back_nil (ao : Option Addr) (cap : Nat) (w : World) : Calls Tryz.prog 145 #[.slice ao 0 cap] w fun e w' => ∃ ao c, e = .returned (.tuple #[.slice ao 0 c, .int .i64 0]) ∧ Below w.heap.size w w' := by
  have c1 := fun W : World => checkPath_nil ao cap W
  have hmk : ∀ W, (Instr.makeSlice 26 (.int .i64 0) (.int .i64 0)).run Tryz.prog W = .ok (.slice (some ⟨W.heap.size, 0, none⟩) 0 0) (W.alloc (.cells #[] 3)) := fun _ => by kernel_rfl
  go_enter Tryz.func145, Tryz.ntmps145
  go_wp2_with ((with_reducible refine (c1 _).mono ?_); rintro e w1 ⟨rfl, hw1⟩)
  refine wp_loop_rounds 1 ?_
  rw [rounds_succ]
  go_wp2
  go_ret2
  exact ⟨_, _, rfl, by repeat (first | (with_reducible exact Below.refl _ _) | (with_reducible refine Below.setCell ?_ ?_ _) | (with_reducible refine Below.drew ?_) | (with_reducible refine Below.alloc ?_ ?_ _) | (with_reducible refine Below.trans ?_ (Below.mono hw1 ?_)) | (with_reducible exact hw1.size) | omega | (simp <;> omega) | (simp <;> (have s := hw1.size; omega)) | (have s0 := hw1.size; (try simp at s0); (try simp); omega))⟩

set_option maxHeartbeats 800000 in
theorem back_bad (ao : Option Addr) (cap : Nat) (l : List Int) (r : Int) (w : World) (h : LiesOI w ao l) (hr : pathR l r) (h0 : r ≠ 0) (hlen : l.length ≤ 1000000) : Calls Tryz.prog 145 #[.slice ao l.length cap] w fun e w' => e = .returned (.tuple #[.slice none 0 0, .int .i64 r]) ∧ Below w.heap.size w w' := by
  have c1 : ∀ W : World, LiesOI W ao l → Calls Tryz.prog 90 #[.slice ao l.length cap] W fun e w' => e = .returned (.int .i64 r) ∧ Below W.heap.size W w' := fun W h => checkPath_any ao cap l r W h hr hlen
  have H := Lib.hid h
  have h0' : (r != 0) = true := by simpa using h0
  clear h hr h0
  go_enter Tryz.func145, Tryz.ntmps145
  go_wp2_with ((with_reducible refine (c1 _ H.out).mono ?_); rintro e w1 ⟨rfl, hw1⟩)
  go_ret2
  exact ⟨rfl, by repeat (first | (with_reducible exact Below.refl _ _) | (with_reducible refine Below.setCell ?_ ?_ _) | (with_reducible refine Below.drew ?_) | (with_reducible refine Below.alloc ?_ ?_ _) | (with_reducible refine Below.trans ?_ (Below.mono hw1 ?_)) | (with_reducible exact hw1.size) | omega | (simp <;> omega) | (simp <;> (have s := hw1.size; omega)) | (have s0 := hw1.size; (try simp at s0); (try simp); omega))⟩

theorem back_new (ao : Option Addr) (cap : Nat) (l : List Int) (w : World) (h : LiesOI w ao l) (hs : ∀ t ∈ l, IsStep t) (h8 : l.length ≤ 8) : Calls Tryz.prog 145 #[.slice ao l.length cap] w fun e w' => ∃ ao c, e = .returned (.tuple #[.slice ao (opp l).length c, .int .i64 0]) ∧ LiesNI w' w.heap.size ao (opp l) ∧ (opp l).length ≤ c ∧ Below w.heap.size w w' := by
  rcases h with rfl | ⟨b, off, rfl, h⟩
  · exact (back_nil ao cap w).mono fun e w' ⟨a, c, he, hb⟩ => ⟨a, c, he, .inl rfl, Nat.zero_le _, hb⟩
  · exact back_some b off cap l w h hs h8
theorem back_ok (ao : Option Addr) (cap : Nat) (l : List Int) (w : World) (h : LiesOI w ao l) (hs : ∀ t ∈ l, IsStep t) (h8 : l.length ≤ 8) : Calls Tryz.prog 145 #[.slice ao l.length cap] w fun e w' => ∃ ao c, e = .returned (.tuple #[.slice ao (opp l).length c, .int .i64 0]) ∧ LiesOI w' ao (opp l) ∧ Below w.heap.size w w' :=
  (back_new ao cap l w h hs h8).mono fun e w' ⟨a, c, he, hl, _, hb⟩ => ⟨a, c, he, hl.o, hb⟩
end Go.Proofs.YtjidbajcnomceaaGreat

/- Paths without steps that undo each other, as the program and the document's answers make them.
Conditions: the list lies in memory as it is written at each theorem. -/
namespace Go.Proofs.YtjidbajcnomceaaGreat
set_option linter.unusedVariables false
set_option linter.unusedSimpArgs false
set_option maxRecDepth 1000000
open Go.RowKit
open Tm

/-- the list that a stack lies as -/
def stl (st : List Int) : List Value := st.reverse.map vi
theorem stl_cons (x : Int) (st : List Int) : stl (x :: st) = stl st ++ [vi x] := by simp [stl]
theorem stl_top (x : Int) (st : List Int) : (stl (x :: st))[st.length]? = some (vi x) := by
  rw [stl_cons, List.getElem?_append_right (by simp [stl])]
  simp [stl]
theorem stl_take (x : Int) (st : List Int) : (stl (x :: st)).take st.length = stl st := by
  rw [stl_cons]
  exact List.take_left' (by simp [stl])

set_option maxHeartbeats 3200000 in
theorem reduce_some (b off cap : Nat) (l : List Int) (w : World) (h : LiesI w b off l) (hs : ∀ t ∈ l, IsStep t) (h8 : l.length ≤ 8) : Calls Tryz.prog 82 #[.slice (some ⟨b, off, none⟩) l.length cap] w fun e w' => ∃ ao c, e = .returned (.tuple #[.slice ao (red l).length c, .int .i64 0]) ∧ LiesNI w' w.heap.size ao (red l) ∧ (red l).length ≤ c ∧ Below w.heap.size w w' := by
  have c1 : ∀ W : World, LiesI W b off l → Calls Tryz.prog 90 #[.slice (some ⟨b, off, none⟩) l.length cap] W fun e w' => e = .returned (.int .i64 0) ∧ Below W.heap.size W w' := fun W h => checkPath_some b off cap l 0 W h (.inr (.inr ⟨h8, hs, rfl⟩)) (by omega)
  obtain ⟨i0, hi, hz0, hz1, hz2⟩ := info_parts infoI
  have H := Lib.hid h
  have HS := Lib.hid hs
  have hl2 : l.length ≤ maxLen := by unfold maxLen; omega
  have hl3 : i0.bytes * l.length ≤ 281474976710656 := by rw [hz2]; omega
  clear h hs
  go_enter Tryz.func82, Tryz.ntmps82
  go_wp2_with (first | ((with_reducible refine (c1 _ H.out).mono ?_); rintro e w1 ⟨rfl, hw1⟩; have s1 := hw1.size) | (at_make; refine wpList_make_own _ rfl _ _ 26 rfl w1.heap.size 3 i0 _ 1 Tryz.underlying26 hi hz0 hz1 _ _ _ l.length rfl rfl rfl hl3 hl2 (Nat.le_refl _) ?_; intro w2 hown hgrow))
  have hb2 : Below w.heap.size w w2 := hw1.grown hgrow (by omega) (by simp)
  have s2 := hgrow.size
  clear hgrow hw1
  generalize w1.heap.size = g at *
  go_loopw [5, 7, 8, 19] (fun f _ _ q wr => ∃ (k : Nat) (st : List Int), k ≤ l.length ∧ q = .int .i64 k ∧ Hid (st = redS (l.take k)) ∧ st.length ≤ k ∧ f = .slice (some ⟨g, 0, none⟩) st.length l.length ∧ Hid (wr.ownsRow g 3 1 (.slice (some ⟨g, 0, none⟩) st.length l.length) st.length (stl st)) ∧ Below w.heap.size w wr ∧ g ≤ wr.heap.size) (fun _ _ _ q _ => l.length - (intOf q).toNat)
  case atStart => exact ⟨0, [], by omega, rfl, Lib.hid rfl, by simp, rfl, Lib.hid hown, hb2, s2⟩
  case round =>
    obtain ⟨k, st, hk, rfl, hst, hsk, rfl, hown1, hb, hgs⟩ := hrel
    clear hown hb2 s2
    have hbs := hb.size
    by_cases hlt : k < l.length
    · have x1 := H.out.later hb k _ (List.getElem?_eq_getElem hlt)
      have hstp := HS.out _ (List.getElem_mem hlt)
      have hnext := redS_step l k hlt
      rw [← hst.out] at hnext
      obtain ⟨t0, t1, t2⟩ := hstp
      have lb : b < wr.heap.size := World.block_lt_of_cell? wr _ x1
      generalize l[k] = t at *
      have HN := Lib.hid hnext
      clear hnext hst
      have HO := hown1
      have hcase : (∃ x st', st = x :: st' ∧ x = -t) ∨ ((st = [] ∨ ∃ x st', st = x :: st' ∧ x ≠ -t) ∧ push st t = t :: st) := by
        cases st with
        | nil => exact .inr ⟨.inl rfl, rfl⟩
        | cons x st' =>
          by_cases he : x = -t
          · exact .inl ⟨x, st', rfl, he⟩
          · exact .inr ⟨.inr ⟨x, st', rfl, he⟩, by simp only [push]; rw [if_neg he]⟩
      rcases hcase with ⟨x, st, rfl, rfl⟩ | ⟨hcase, hpush⟩
      · have hp : push (-t :: st) t = st := by simp [push]
        have hcell := (HO.out.cellAt st.length (by simp)).trans (stl_top (-t) st)
        have ho2 := owned_shrink HO.out (m := st.length) (by simp)
        rw [stl_take] at ho2
        have HO2 := Lib.hid ho2
        have hN2 : Hid (st = redS (l.take (k + 1))) := Lib.hid (by rw [HN.out, hp])
        have hsk2 : st.length + 1 ≤ k := by simpa using hsk
        simp only [List.length_cons] at *
        unfold vi at hcell
        clear ho2 hown1 HO HN hp hsk
        go_wp2
        exact ⟨⟨k + 1, st, by omega, by go_num, hN2, by omega, rfl, HO2, hb, hgs⟩, by simp [intOf]; omega⟩
      · have hN2 : Hid (t :: st = redS (l.take (k + 1))) := Lib.hid (by rw [HN.out, hpush])
        clear HN hpush hown1
        rcases hcase with rfl | ⟨x, st', rfl, hne⟩
        · go_wp2_with (at_builtin; refine wpList_append_fits _ rfl (.tmp 40) (.tmp 42) 26 rfl g 3 i0 1 Tryz.underlying26 hi hz1 g 0 l.length (stl []) rfl (HO.out.alloc _) ⟨wr.heap.size, 0, none⟩ 1 1 [vi t] rfl rfl (one_cell (by simp [go_sem, vi])) (one_one _) (by omega) ?_; intro w4 hown4 hgrow4)
          have hb4 := (hb.alloc hbs _).grown hgrow4 (by simp <;> omega) (fun j hj => by simp at hj; omega)
          have s4 := hgrow4.size
          simp at s4
          rw [← stl_cons] at hown4
          clear HO hgrow4
          go_wp2
          exact ⟨⟨k + 1, [t], by omega, by go_num, hN2, by simp, rfl, Lib.hid hown4, hb4, by omega⟩, by simp [intOf]; omega⟩
        · have hcell := (HO.out.cellAt st'.length (by simp)).trans (stl_top x st')
          have hne' : (x == -t) = false := by simpa using hne
          simp only [List.length_cons] at *
          unfold vi at hcell
          clear hne
          go_wp2_with (at_builtin; refine wpList_append_fits _ rfl (.tmp 40) (.tmp 42) 26 rfl g 3 i0 1 Tryz.underlying26 hi hz1 g (st'.length + 1) l.length (stl (x :: st')) rfl (HO.out.alloc _) ⟨wr.heap.size, 0, none⟩ 1 1 [vi t] rfl rfl (one_cell (by simp [go_sem, vi])) (one_one _) (by omega) ?_; intro w4 hown4 hgrow4)
          have hb4 := (hb.alloc hbs _).grown hgrow4 (by simp <;> omega) (fun j hj => by simp at hj; omega)
          have s4 := hgrow4.size
          simp at s4
          rw [← stl_cons] at hown4
          clear HO hgrow4 hcell
          go_wp2
          exact ⟨⟨k + 1, t :: x :: st', by omega, by go_num, hN2, by simp; omega, rfl, Lib.hid hown4, hb4, by omega⟩, by simp [intOf]; omega⟩
    · obtain rfl : k = l.length := by omega
      have hst' : st = redS l := by have := hst.out; rwa [List.take_length] at this
      have hfin : wr.ownsRow g 3 1 (.slice (some ⟨g, 0, none⟩) (red l).length l.length) (red l).length ((red l).map vi) := by
        have := hown1.out
        rw [hst'] at this
        rw [red, List.length_reverse]
        exact this
      have hli := owned_liesI hfin
      have hfr := fun j => hfin.frozenAt j
      have hle : (red l).length = st.length := by rw [red, List.length_reverse, hst']
      have HL := Lib.hid hle
      clear hown1 hfin hst hst' hle
      go_wp2
      go_ret2
      exact ⟨_, _, by rw [HL.out]; rfl, .inr ⟨g, 0, rfl, s1, hfr, hli⟩, red_len l, hb⟩

set_option maxHeartbeats 1600000 in
theorem reduce_nil (ao : Option Addr) (cap : Nat) (w : World) : Calls Tryz.prog 82 #[.slice ao 0 cap] w fun e w' => ∃ ao c, e = .returned (.tuple #[.slice ao 0 c, .int .i64 0]) ∧ Below w.heap.size w w' := by
  have c1 := fun W : World => checkPath_nil ao cap W
  have hmk : ∀ W, (Instr.makeSlice 26 (.int .i64 0) (.int .i64 0)).run Tryz.prog W = .ok (.slice (some ⟨W.heap.size, 0, none⟩) 0 0) (W.alloc (.cells #[] 3)) := fun _ => by kernel_rfl
  go_enter Tryz.func82, Tryz.ntmps82
  go_wp2_with ((with_reducible refine (c1 _).mono ?_); rintro e w1 ⟨rfl, hw1⟩)
  refine wp_loop_rounds 1 ?_
  rw [rounds_succ]
  go_wp2
  go_ret2
  exact ⟨_, _, rfl, by repeat (first | (with_reducible exact Below.refl _ _) | (with_reducible refine Below.setCell ?_ ?_ _) | (with_reducible refine Below.drew ?_) | (with_reducible refine Below.alloc ?_ ?_ _) | (with_reducible refine Below.trans ?_ (Below.mono hw1 ?_)) | (with_reducible exact hw1.size) | omega | (simp <;> omega) | (simp <;> (have s := hw1.size; omega)) | (have s0 := hw1.size; (try simp at s0); (try simp); omega))⟩

set_option maxHeartbeats 800000 in
theorem reduce_bad (ao : Option Addr) (cap : Nat) (l : List Int) (r : Int) (w : World) (h : LiesOI w ao l) (hr : pathR l r) (h0 : r ≠ 0) (hlen : l.length ≤ 1000000) : Calls Tryz.prog 82 #[.slice ao l.length cap] w fun e w' => e = .returned (.tuple #[.slice none 0 0, .int .i64 r]) ∧ Below w.heap.size w w' := by
  have c1 : ∀ W : World, LiesOI W ao l → Calls Tryz.prog 90 #[.slice ao l.length cap] W fun e w' => e = .returned (.int .i64 r) ∧ Below W.heap.size W w' := fun W h => checkPath_any ao cap l r W h hr hlen
  have H := Lib.hid h
  have h0' : (r != 0) = true := by simpa using h0
  clear h hr h0
  go_enter Tryz.func82, Tryz.ntmps82
  go_wp2_with ((with_reducible refine (c1 _ H.out).mono ?_); rintro e w1 ⟨rfl, hw1⟩)
  go_ret2
  exact ⟨rfl, by repeat (first | (with_reducible exact Below.refl _ _) | (with_reducible refine Below.setCell ?_ ?_ _) | (with_reducible refine Below.drew ?_) | (with_reducible refine Below.alloc ?_ ?_ _) | (with_reducible refine Below.trans ?_ (Below.mono hw1 ?_)) | (with_reducible exact hw1.size) | omega | (simp <;> omega) | (simp <;> (have s := hw1.size; omega)) | (have s0 := hw1.size; (try simp at s0); (try simp); omega))⟩

theorem reduce_new (ao : Option Addr) (cap : Nat) (l : List Int) (w : World) (h : LiesOI w ao l) (hs : ∀ t ∈ l, IsStep t) (h8 : l.length ≤ 8) : Calls Tryz.prog 82 #[.slice ao l.length cap] w fun e w' => ∃ ao c, e = .returned (.tuple #[.slice ao (red l).length c, .int .i64 0]) ∧ LiesNI w' w.heap.size ao (red l) ∧ (red l).length ≤ c ∧ Below w.heap.size w w' := by
  rcases h with rfl | ⟨b, off, rfl, h⟩
  · exact (reduce_nil ao cap w).mono fun e w' ⟨a, c, he, hb⟩ => ⟨a, c, he, .inl rfl, Nat.zero_le _, hb⟩
  · exact reduce_some b off cap l w h hs h8

theorem reduce_ok (ao : Option Addr) (cap : Nat) (l : List Int) (w : World) (h : LiesOI w ao l) (hs : ∀ t ∈ l, IsStep t) (h8 : l.length ≤ 8) : Calls Tryz.prog 82 #[.slice ao l.length cap] w fun e w' => ∃ ao c, e = .returned (.tuple #[.slice ao (red l).length c, .int .i64 0]) ∧ LiesOI w' ao (red l) ∧ Below w.heap.size w w' :=
  (reduce_new ao cap l w h hs h8).mono fun e w' ⟨a, c, he, hl, _, hb⟩ => ⟨a, c, he, hl.o, hb⟩

theorem owned_some {w : World} {base : Nat} {T : TypeId} {v : Value} {n : Nat} {xs : List Value} (h : w.ownsRow base T 1 v n xs) (hn : 0 < n) : ∃ g cap, v = .slice (some ⟨g, 0, none⟩) n cap ∧ base ≤ g := by
  rcases h.2 with ⟨rfl, h0⟩ | ⟨g, cap, cur, rfl, hg, _⟩
  · omega
  · exact ⟨g, cap, rfl, hg⟩
theorem owned_zero {w : World} {base : Nat} {T : TypeId} {v : Value} {xs : List Value} (h : w.ownsRow base T 1 v 0 xs) : ∃ ao cap, v = .slice ao 0 cap := by
  rcases h.2 with ⟨rfl, h0⟩ | ⟨g, cap, cur, rfl, hg, _⟩
  · exact ⟨none, 0, rfl⟩
  · exact ⟨_, cap, rfl⟩

end Go.Proofs.YtjidbajcnomceaaGreat

/- Walks, as the program and the document's answers make them.
Conditions: the list lies in memory as it is written at each theorem. -/
namespace Go.Proofs.YtjidbajcnomceaaGreat
set_option linter.unusedVariables false
set_option linter.unusedSimpArgs false
set_option maxRecDepth 1000000
open Go.RowKit
open Tm

/-- the error of sizes, a site and a path -/
def wkR (a b c s : Int) (l : List Int) (r : Int) : Prop := (stR a b c s r ∧ r ≠ 0) ∨ (Sz a b c ∧ 0 ≤ s ∧ s < a * b * c ∧ pathR l r)
theorem wkR_ex (a b c s : Int) (l : List Int) : ∃ r, wkR a b c s l r := by
  by_cases h : Sz a b c
  · by_cases hs : 0 ≤ s ∧ s < a * b * c
    · obtain ⟨r, hr⟩ := pathR_ex l
      exact ⟨r, .inr ⟨h, hs.1, hs.2, hr⟩⟩
    · exact ⟨4, .inl ⟨.inr (.inl ⟨h, hs, rfl⟩), by decide⟩⟩
  · exact ⟨1, .inl ⟨.inl ⟨h, rfl⟩, by decide⟩⟩

set_option maxHeartbeats 800000 in
theorem checkWalk_any (a b c s r : Int) (ao : Option Addr) (cap : Nat) (l : List Int) (w : World) (h : LiesOI w ao l) (hr : wkR a b c s l r) (hlen : l.length ≤ 1000000) : Calls Tryz.prog 57 #[.agg #[.int .i64 a, .int .i64 b, .int .i64 c], .int .i64 s, .slice ao l.length cap] w fun e w' => e = .returned (.int .i64 r) ∧ Below w.heap.size w w' := by
  rcases hr with ⟨hr, h0⟩ | ⟨hz, h0, h1, hr⟩
  · have c1 := fun W : World => checkSite_any a b c s r W hr
    have h0' : (r != 0) = true := by simpa using h0
    clear hr h h0
    go_enter Tryz.func57, Tryz.ntmps57
    go_wp2_with ((with_reducible refine (c1 _).mono ?_); rintro e w1 ⟨rfl, hw1⟩)
    go_ret
    exact ⟨rfl, by repeat (first | (with_reducible exact Below.refl _ _) | (with_reducible refine Below.setCell ?_ ?_ _) | (with_reducible refine Below.drew ?_) | (with_reducible refine Below.alloc ?_ ?_ _) | (with_reducible refine Below.trans ?_ (Below.mono hw1 ?_)) | (with_reducible exact hw1.size) | omega | (simp <;> omega) | (simp <;> (have s := hw1.size; omega)) | (have s0 := hw1.size; (try simp at s0); (try simp); omega))⟩
  · have c1 := fun W : World => checkSite_any a b c s 0 W (.inr (.inr ⟨hz, h0, h1, rfl⟩))
    have c2 : ∀ W : World, LiesOI W ao l → Calls Tryz.prog 90 #[.slice ao l.length cap] W fun e w' => e = .returned (.int .i64 r) ∧ Below W.heap.size W w' := fun W h => checkPath_any ao cap l r W h hr hlen
    have H := Lib.hid h
    clear hr h hz h0 h1
    go_enter Tryz.func57, Tryz.ntmps57
    go_wp2_with (first | ((with_reducible refine (c1 _).mono ?_); rintro e w1 ⟨rfl, hw1⟩) | ((with_reducible refine (c2 _ (H.out.later (by repeat (first | (with_reducible exact Below.refl _ _) | (with_reducible refine Below.setCell ?_ ?_ _) | (with_reducible refine Below.drew ?_) | (with_reducible refine Below.alloc ?_ ?_ _) | (with_reducible refine Below.trans ?_ (Below.mono hw1 ?_)) | (with_reducible exact hw1.size) | omega | (simp <;> omega) | (simp <;> (have s := hw1.size; omega)) | (have s0 := hw1.size; (try simp at s0); (try simp); omega))))).mono ?_); rintro e w2 ⟨rfl, hw2⟩))
    go_ret
    exact ⟨rfl, by repeat (first | (with_reducible exact Below.refl _ _) | (with_reducible refine Below.setCell ?_ ?_ _) | (with_reducible refine Below.drew ?_) | (with_reducible refine Below.alloc ?_ ?_ _) | (with_reducible refine Below.trans ?_ (Below.mono hw2 ?_)) | (with_reducible refine Below.trans ?_ (Below.mono hw1 ?_)) | (with_reducible exact hw2.size) | (with_reducible exact hw1.size) | omega | (simp <;> omega) | (simp <;> (have s := hw2.size; omega)) | (simp <;> (have s := hw1.size; omega)) | (have s0 := hw2.size; (try simp at s0); have s1 := hw1.size; (try simp at s1); (try simp); omega))⟩

/-- three numbers in a box, to be read -/
structure ABox (w : World) (b : Nat) (x y z : Int) : Prop where
  c0 : w.cell? ⟨b, 0, none⟩ = some (.int .i64 x)
  c1 : w.cell? ⟨b, 1, none⟩ = some (.int .i64 y)
  c2 : w.cell? ⟨b, 2, none⟩ = some (.int .i64 z)
  lt : b < w.heap.size
theorem ABox.later {w w1 : World} {b : Nat} {x y z : Int} (h : ABox w b x y z) (hb : Below w.heap.size w w1) : ABox w1 b x y z :=
  ⟨(hb.cell h.lt).trans h.c0, (hb.cell h.lt).trans h.c1, (hb.cell h.lt).trans h.c2, Nat.lt_of_lt_of_le h.lt hb.size⟩
theorem ABox.grown {w w1 : World} {b : Nat} {x y z : Int} {row : Option Nat} (h : ABox w b x y z) (hg : w.grownBy w1 row) (hne : some b ≠ row) : ABox w1 b x y z :=
  ⟨hg.cell h.c0 hne, hg.cell h.c1 hne, hg.cell h.c2 hne, Nat.lt_of_lt_of_le h.lt hg.size⟩

set_option maxHeartbeats 1600000 in
theorem walk_some (a b c s : Int) (ba off cap : Nat) (l : List Int) (w : World) (hz : Sz a b c) (h0 : 0 ≤ s) (h1 : s < a * b * c) (h : LiesI w ba off l) (hs : ∀ t ∈ l, IsStep t) (h8 : l.length ≤ 8) : Calls Tryz.prog 91 #[.agg #[.int .i64 a, .int .i64 b, .int .i64 c], .int .i64 s, .slice (some ⟨ba, off, none⟩) l.length cap] w fun e w' => ∃ ao k, e = .returned (.slice ao (wl a b c s l).length k) ∧ LiesOI w' ao (wl a b c s l) ∧ Below w.heap.size w w' := by
  obtain ⟨i0, hi, hi0, hi1, hi2⟩ := info_parts infoI
  have H := Lib.hid h
  have HS := Lib.hid hs
  have HN := Lib.hid (fun k (hk : k < l.length) (W : World) => next_any a b c (en a b c s (l.take k)) l[k] W hz (en_rng hz h0 h1 (l.take k)).1 (en_rng hz h0 h1 (l.take k)).2 (hs _ (List.getElem_mem hk)))
  clear h hs hz h0 h1
  go_enter Tryz.func91, Tryz.ntmps91
  go_wp2
  have hlit := World.ownsRow_lit (e := 3) (base := w.heap.size + 1) (size := 1) (w.alloc (.cells #[.int .i64 a, .int .i64 b, .int .i64 c] 22)) #[.int .i64 s] 1 (by simp) (by unfold maxLen; omega) (by simp)
  rw [World.size_alloc] at hlit
  have hbx : ABox ((w.alloc (.cells #[.int .i64 a, .int .i64 b, .int .i64 c] 22)).alloc (.cells #[.int .i64 s] 3)) w.heap.size a b c := ⟨by simp [go_sem], by simp [go_sem], by simp [go_sem], by simp <;> omega⟩
  have hB : Below w.heap.size w ((w.alloc (.cells #[.int .i64 a, .int .i64 b, .int .i64 c] 22)).alloc (.cells #[.int .i64 s] 3)) := by repeat (first | (with_reducible exact Below.refl _ _) | (with_reducible refine Below.setCell ?_ ?_ _) | (with_reducible refine Below.drew ?_) | (with_reducible refine Below.alloc ?_ ?_ _) | omega | (simp <;> omega))
  go_loopw [1, 7, 9, 14] (fun p f _ q wr => ∃ (k : Nat) (v : Value), k ≤ l.length ∧ q = .int .i64 k ∧ p = .int .i64 (en a b c s (l.take k)) ∧ v = f ∧ Hid (wr.ownsRow (w.heap.size + 1) 3 1 v (wl a b c s (l.take k)).length ((wl a b c s (l.take k)).map vi)) ∧ ABox wr w.heap.size a b c ∧ Below w.heap.size w wr) (fun _ _ _ q _ => l.length - (intOf q).toNat)
  case atStart => exact ⟨0, _, by omega, rfl, rfl, rfl, Lib.hid hlit, hbx, hB⟩
  case round =>
    obtain ⟨k, v, hk, rfl, rfl, rfl, hown, hbx1, hb⟩ := hrel
    clear hlit hbx hB
    have hbs := hb.size
    have hlb := hbx1.lt
    by_cases hlt : k < l.length
    · have x1 := H.out.later hb k _ (List.getElem?_eq_getElem hlt)
      have c1 := HN.out k hlt
      have e1 := en_take a b c s l k hlt
      have e2 := wl_take a b c s l k hlt
      rw [← e1] at c1
      have hll : (wl a b c s (l.take k)).length ≤ 9 := by rw [wl_len, List.length_take]; omega
      obtain ⟨s', hs'⟩ : ∃ s', s' = en a b c s (l.take (k + 1)) := ⟨_, rfl⟩
      rw [← hs'] at c1 e2
      have HES := Lib.hid hs'
      clear e1 hs'
      generalize en a b c s (l.take k) = s0 at *
      generalize l[k] = t at *
      have E2 := Lib.hid e2
      have HBX := Lib.hid hbx1
      obtain ⟨d0, d1, d2, -⟩ := hbx1
      clear e2
      go_wp2_with (first | ((with_reducible refine (c1 _).mono ?_); clear c1; rintro e w1 ⟨rfl, hw1⟩) | (at_builtin; refine wpList_append_own _ rfl (.tmp 22) (.tmp 24) 26 rfl (w.heap.size + 1) 3 i0 _ 1 8 Tryz.underlying26 hi hi0 hi1 hi2 rfl (by decide) v (wl a b c s (l.take k)).length ((wl a b c s (l.take k)).map vi) rfl ((owned_later hown.out hw1).alloc _) ⟨w1.heap.size, 0, none⟩ 1 1 [vi s'] rfl rfl (one_cell (by simp [go_sem, vi])) (one_one _) (by unfold maxLen; omega) (by omega) (by have := hw1.size; simp; omega) ?_; intro v' w4 hown4 hgrow4 _))
      have hfr := owned_from hown.out
      have hne := owned_ne hown.out (b := w.heap.size) (by omega)
      have hb1 : Below w.heap.size w w1 := by repeat (first | (with_reducible exact Below.refl _ _) | (with_reducible refine Below.setCell ?_ ?_ _) | (with_reducible refine Below.drew ?_) | (with_reducible refine Below.alloc ?_ ?_ _) | (with_reducible refine Below.trans ?_ (Below.mono hw1 ?_)) | (with_reducible refine Below.trans ?_ (Below.mono hb ?_)) | (with_reducible exact hw1.size) | (with_reducible exact hb.size) | omega | (simp <;> omega) | (simp <;> (have s := hw1.size; omega)) | (simp <;> (have s := hb.size; omega)) | (have s0 := hw1.size; (try simp at s0); have s1 := hb.size; (try simp at s1); (try simp); omega))
      have hb4 := (hb1.alloc hb1.size _).grown hgrow4 (by have := hb1.size; simp; omega) (fun j hj => by have := hfr j hj; omega)
      have hbx4 := ((HBX.out.later hw1).later ((Below.refl _ _).alloc (Nat.le_refl _) _)).grown hgrow4 hne
      have ho : w4.ownsRow (w.heap.size + 1) 3 1 v' (wl a b c s (l.take (k + 1))).length ((wl a b c s (l.take (k + 1))).map vi) := by
        rw [E2.out, List.length_append, List.map_append]
        exact hown4
      clear hown4 hgrow4 hown hw1
      go_wp2
      exact ⟨⟨k + 1, _, by omega, by go_num, by rw [← HES.out], rfl, Lib.hid ho, hbx4, hb4⟩, by simp [intOf]; omega⟩
    · obtain rfl : k = l.length := by omega
      have hown' : wr.ownsRow (w.heap.size + 1) 3 1 v (wl a b c s l).length ((wl a b c s l).map vi) := by
        have := hown.out
        rwa [List.take_length] at this
      obtain ⟨ao, c', rfl, hl⟩ := owned_liesOI hown'
      clear hown hown'
      go_wp2
      go_ret
      exact ⟨_, _, rfl, hl, hb⟩

set_option maxHeartbeats 800000 in
theorem walk_nil (a b c s : Int) (ao : Option Addr) (cap : Nat) (w : World) : Calls Tryz.prog 91 #[.agg #[.int .i64 a, .int .i64 b, .int .i64 c], .int .i64 s, .slice ao 0 cap] w fun e w' => ∃ g, e = .returned (.slice (some ⟨g, 0, none⟩) 1 1) ∧ LiesI w' g 0 [s] ∧ Below w.heap.size w w' := by
  go_enter Tryz.func91, Tryz.ntmps91
  go_wp2
  refine wp_loop_rounds 1 ?_
  rw [rounds_succ]
  go_wp2
  go_ret
  refine ⟨_, rfl, fun i x hx => ?_, by repeat (first | (with_reducible exact Below.refl _ _) | (with_reducible refine Below.setCell ?_ ?_ _) | (with_reducible refine Below.drew ?_) | (with_reducible refine Below.alloc ?_ ?_ _) | omega | (simp <;> omega))⟩
  match i, hx with
  | 0, hx => simp at hx; subst hx; simp [go_sem]
  | n + 1, hx => simp at hx

theorem walk_any (a b c s : Int) (ao : Option Addr) (cap : Nat) (l : List Int) (w : World) (hz : Sz a b c) (h0 : 0 ≤ s) (h1 : s < a * b * c) (h : LiesOI w ao l) (hs : ∀ t ∈ l, IsStep t) (h8 : l.length ≤ 8) : Calls Tryz.prog 91 #[.agg #[.int .i64 a, .int .i64 b, .int .i64 c], .int .i64 s, .slice ao l.length cap] w fun e w' => ∃ ao k, e = .returned (.slice ao (wl a b c s l).length k) ∧ LiesOI w' ao (wl a b c s l) ∧ Below w.heap.size w w' := by
  rcases h with rfl | ⟨ba, off, rfl, h⟩
  · exact (walk_nil a b c s ao cap w).mono fun e w' ⟨g, he, hl, hb⟩ => ⟨_, 1, he, .inr ⟨g, 0, rfl, hl⟩, hb⟩
  · exact walk_some a b c s ba off cap l w hz h0 h1 h hs h8

set_option maxHeartbeats 800000 in
theorem walkO_bad (a b c s r : Int) (ao : Option Addr) (cap : Nat) (l : List Int) (w : World) (h : LiesOI w ao l) (hr : wkR a b c s l r) (h0 : r ≠ 0) (hlen : l.length ≤ 1000000) : Calls Tryz.prog 59 #[.agg #[.int .i64 a, .int .i64 b, .int .i64 c], .int .i64 s, .slice ao l.length cap] w fun e w' => e = .returned (.tuple #[.slice none 0 0, .int .i64 r]) ∧ Below w.heap.size w w' := by
  have c1 : ∀ W : World, LiesOI W ao l → Calls Tryz.prog 57 #[.agg #[.int .i64 a, .int .i64 b, .int .i64 c], .int .i64 s, .slice ao l.length cap] W fun e w' => e = .returned (.int .i64 r) ∧ Below W.heap.size W w' := fun W h => checkWalk_any a b c s r ao cap l W h hr hlen
  have H := Lib.hid h
  have h0' : (r != 0) = true := by simpa using h0
  clear h hr h0
  go_enter Tryz.func59, Tryz.ntmps59
  go_wp2_with ((with_reducible refine (c1 _ (H.out.later (by repeat (first | (with_reducible exact Below.refl _ _) | (with_reducible refine Below.setCell ?_ ?_ _) | (with_reducible refine Below.drew ?_) | (with_reducible refine Below.alloc ?_ ?_ _) | omega | (simp <;> omega))))).mono ?_); rintro e w1 ⟨rfl, hw1⟩)
  go_ret2
  exact ⟨rfl, by repeat (first | (with_reducible exact Below.refl _ _) | (with_reducible refine Below.setCell ?_ ?_ _) | (with_reducible refine Below.drew ?_) | (with_reducible refine Below.alloc ?_ ?_ _) | (with_reducible refine Below.trans ?_ (Below.mono hw1 ?_)) | (with_reducible exact hw1.size) | omega | (simp <;> omega) | (simp <;> (have s := hw1.size; omega)) | (have s0 := hw1.size; (try simp at s0); (try simp); omega))⟩

set_option maxHeartbeats 800000 in
theorem walkO_ok (a b c s : Int) (ao : Option Addr) (cap : Nat) (l : List Int) (w : World) (hz : Sz a b c) (h0 : 0 ≤ s) (h1 : s < a * b * c) (h : LiesOI w ao l) (hs : ∀ t ∈ l, IsStep t) (h8 : l.length ≤ 8) : Calls Tryz.prog 59 #[.agg #[.int .i64 a, .int .i64 b, .int .i64 c], .int .i64 s, .slice ao l.length cap] w fun e w' => ∃ ao k, e = .returned (.tuple #[.slice ao (wl a b c s l).length k, .int .i64 0]) ∧ LiesOI w' ao (wl a b c s l) ∧ Below w.heap.size w w' := by
  have c1 : ∀ W : World, LiesOI W ao l → Calls Tryz.prog 57 #[.agg #[.int .i64 a, .int .i64 b, .int .i64 c], .int .i64 s, .slice ao l.length cap] W fun e w' => e = .returned (.int .i64 0) ∧ Below W.heap.size W w' := fun W h => checkWalk_any a b c s 0 ao cap l W h (.inr ⟨hz, h0, h1, .inr (.inr ⟨h8, hs, rfl⟩)⟩) (by omega)
  have c2 : ∀ W : World, LiesOI W ao l → Calls Tryz.prog 91 #[.agg #[.int .i64 a, .int .i64 b, .int .i64 c], .int .i64 s, .slice ao l.length cap] W fun e w' => ∃ ao k, e = .returned (.slice ao (wl a b c s l).length k) ∧ LiesOI w' ao (wl a b c s l) ∧ Below W.heap.size W w' := fun W h => walk_any a b c s ao cap l W hz h0 h1 h hs h8
  have H := Lib.hid h
  clear h hz h0 h1 hs
  go_enter Tryz.func59, Tryz.ntmps59
  go_wp2_with (first | ((with_reducible refine (c1 _ (H.out.later (by repeat (first | (with_reducible exact Below.refl _ _) | (with_reducible refine Below.setCell ?_ ?_ _) | (with_reducible refine Below.drew ?_) | (with_reducible refine Below.alloc ?_ ?_ _) | omega | (simp <;> omega))))).mono ?_); rintro e w1 ⟨rfl, hw1⟩; have hc1 := Tail.cells hw1; have z0 := Nat.lt_of_lt_of_le (n := w.heap.size) (by simp) hw1.size) | ((with_reducible refine (c2 _ (H.out.later (by repeat (first | (with_reducible exact Below.refl _ _) | (with_reducible refine Below.setCell ?_ ?_ _) | (with_reducible refine Below.drew ?_) | (with_reducible refine Below.alloc ?_ ?_ _) | (with_reducible refine Below.trans ?_ (Below.mono hw1 ?_)) | (with_reducible exact hw1.size) | omega | (simp <;> omega) | (simp <;> (have s := hw1.size; omega)) | (have s0 := hw1.size; (try simp at s0); (try simp); omega))))).mono ?_); rintro e w2 ⟨a2, k2, rfl, hl2, hw2⟩; have HL := Lib.hid hl2; clear hl2))
  go_ret2
  exact ⟨_, _, rfl, HL.out, by repeat (first | (with_reducible exact Below.refl _ _) | (with_reducible refine Below.setCell ?_ ?_ _) | (with_reducible refine Below.drew ?_) | (with_reducible refine Below.alloc ?_ ?_ _) | (with_reducible refine Below.trans ?_ (Below.mono hw2 ?_)) | (with_reducible refine Below.trans ?_ (Below.mono hw1 ?_)) | (with_reducible exact hw2.size) | (with_reducible exact hw1.size) | omega | (simp <;> omega) | (simp <;> (have s := hw2.size; omega)) | (simp <;> (have s := hw1.size; omega)) | (have s0 := hw2.size; (try simp at s0); have s1 := hw1.size; (try simp at s1); (try simp); omega))⟩

set_option maxHeartbeats 800000 in
theorem isClosed_bad (a b c s r : Int) (ao : Option Addr) (cap : Nat) (l : List Int) (w : World) (h : LiesOI w ao l) (hr : wkR a b c s l r) (h0 : r ≠ 0) (hlen : l.length ≤ 1000000) : Calls Tryz.prog 30 #[.agg #[.int .i64 a, .int .i64 b, .int .i64 c], .int .i64 s, .slice ao l.length cap] w fun e w' => e = .returned (.tuple #[.bool false, .int .i64 r]) ∧ Below w.heap.size w w' := by
  have c1 : ∀ W : World, LiesOI W ao l → Calls Tryz.prog 59 #[.agg #[.int .i64 a, .int .i64 b, .int .i64 c], .int .i64 s, .slice ao l.length cap] W fun e w' => e = .returned (.tuple #[.slice none 0 0, .int .i64 r]) ∧ Below W.heap.size W w' := fun W h => walkO_bad a b c s r ao cap l W h hr h0 hlen
  have H := Lib.hid h
  have h0' : (r != 0) = true := by simpa using h0
  clear h hr h0
  go_enter Tryz.func30, Tryz.ntmps30
  go_wp2_with ((with_reducible refine (c1 _ (H.out.later (by repeat (first | (with_reducible exact Below.refl _ _) | (with_reducible refine Below.setCell ?_ ?_ _) | (with_reducible refine Below.drew ?_) | (with_reducible refine Below.alloc ?_ ?_ _) | omega | (simp <;> omega))))).mono ?_); rintro e w1 ⟨rfl, hw1⟩)
  go_ret2
  exact ⟨rfl, by repeat (first | (with_reducible exact Below.refl _ _) | (with_reducible refine Below.setCell ?_ ?_ _) | (with_reducible refine Below.drew ?_) | (with_reducible refine Below.alloc ?_ ?_ _) | (with_reducible refine Below.trans ?_ (Below.mono hw1 ?_)) | (with_reducible exact hw1.size) | omega | (simp <;> omega) | (simp <;> (have s := hw1.size; omega)) | (have s0 := hw1.size; (try simp at s0); (try simp); omega))⟩

set_option maxHeartbeats 800000 in
theorem isClosed_ok (a b c s : Int) (q : Bool) (ao : Option Addr) (cap : Nat) (l : List Int) (w : World) (hz : Sz a b c) (h0 : 0 ≤ s) (h1 : s < a * b * c) (h : LiesOI w ao l) (hs : ∀ t ∈ l, IsStep t) (h8 : l.length ≤ 8) (hq : (en a b c s l = s ∧ q = true) ∨ (en a b c s l ≠ s ∧ q = false)) : Calls Tryz.prog 30 #[.agg #[.int .i64 a, .int .i64 b, .int .i64 c], .int .i64 s, .slice ao l.length cap] w fun e w' => e = .returned (.tuple #[.bool q, .int .i64 0]) ∧ Below w.heap.size w w' := by
  have c1 : ∀ W : World, LiesOI W ao l → Calls Tryz.prog 59 #[.agg #[.int .i64 a, .int .i64 b, .int .i64 c], .int .i64 s, .slice ao l.length cap] W fun e w' => ∃ g o k, e = .returned (.tuple #[.slice (some ⟨g, o, none⟩) (l.length + 1) k, .int .i64 0]) ∧ w'.cell? ⟨g, o + l.length, none⟩ = some (.int .i64 (en a b c s l)) ∧ Below W.heap.size W w' := fun W h => (walkO_ok a b c s ao cap l W hz h0 h1 h hs h8).mono fun e w' ⟨a2, k, he, hl, hb⟩ => by
    rcases hl with hl | ⟨g, o, rfl, hl⟩
    · have := wl_len a b c s l
      rw [hl] at this
      simp at this
    · rw [wl_len] at he
      exact ⟨g, o, k, he, hl _ _ (wl_last a b c s l), hb⟩
  have H := Lib.hid h
  clear h hz h0 h1 hs
  generalize en a b c s l = z at *
  have hq2 : ((z == s) = true ∧ q = true) ∨ ((z == s) = false ∧ q = false) := by
    rcases hq with ⟨h1, h2⟩ | ⟨h1, h2⟩
    · exact .inl ⟨by simpa using h1, h2⟩
    · exact .inr ⟨by simpa using h1, h2⟩
  clear hq
  rcases hq2 with ⟨hq, rfl⟩ | ⟨hq, rfl⟩
  all_goals
    go_enter Tryz.func30, Tryz.ntmps30
    go_wp2_with ((with_reducible refine (c1 _ (H.out.later (by repeat (first | (with_reducible exact Below.refl _ _) | (with_reducible refine Below.setCell ?_ ?_ _) | (with_reducible refine Below.drew ?_) | (with_reducible refine Below.alloc ?_ ?_ _) | omega | (simp <;> omega))))).mono ?_); rintro e w1 ⟨g, o, k, rfl, hx, hw1⟩)
    go_ret2
    exact ⟨rfl, by repeat (first | (with_reducible exact Below.refl _ _) | (with_reducible refine Below.setCell ?_ ?_ _) | (with_reducible refine Below.drew ?_) | (with_reducible refine Below.alloc ?_ ?_ _) | (with_reducible refine Below.trans ?_ (Below.mono hw1 ?_)) | (with_reducible exact hw1.size) | omega | (simp <;> omega) | (simp <;> (have s := hw1.size; omega)) | (have s0 := hw1.size; (try simp at s0); (try simp); omega))⟩

end Go.Proofs.YtjidbajcnomceaaGreat
