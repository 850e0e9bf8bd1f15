/- Which lists are paths, as the program and the document's answers find it.
Conditions: the list lies in memory as it is written at each theorem. -/
import Derived.Test.YtpfhjdmgkckjfaaGreatDoorAThrM
import Derived.Test.YtpfhjdmgkckjfaaGreatDoorAMathA
namespace Go.Proofs.YtpfhjdmgkckjfaaGreatDoor
set_option linter.unusedVariables false
set_option linter.unusedSimpArgs false
set_option maxRecDepth 1000000
open Go.RowKit
open Tm

set_option maxHeartbeats 1600000 in
theorem checkPath_some (b off cap : Nat) (l : List Int) (r : Int) (w : World) (h : LiesI w b off l) (hr0 : pathR l r) (hlen : l.length ≤ 1000000) : Calls Tryz.prog 158 #[.slice (some ⟨b, off, none⟩) l.length cap] w fun e w' => e = .returned (.int .i64 r) ∧ Below w.heap.size w w' := by
  rcases hr0 with ⟨h8, rfl⟩ | hr0
  · have h8' : (8 : Int) < (l.length : Int) := by omega
    go_enter Tryz.func158, Tryz.ntmps158
    go_wp2
    go_ret
    exact ⟨rfl, Below.refl _ _⟩
  have h8 : l.length ≤ 8 := by rcases hr0 with h | h <;> exact h.1
  have hr : ((∃ t ∈ l, ¬ IsStep t) ∧ r = 1) ∨ ((∀ t ∈ l, IsStep t) ∧ r = 0) := by
    rcases hr0 with h | h
    · exact .inl h.2
    · exact .inr h.2
  have H := Lib.hid h
  have HR := Lib.hid hr
  have h8' : ¬ (8 : Int) < (l.length : Int) := by omega
  clear h hr hr0
  go_enter Tryz.func158, Tryz.ntmps158
  go_wp2
  go_loop [4, 10] (fun _ q => ∃ k : Nat, k ≤ l.length ∧ q = .int .i64 k ∧ Hid (∀ i x, i < k → l[i]? = some x → IsStep x)) (fun _ q => l.length - (intOf q).toNat)
  case atStart => exact ⟨0, by omega, rfl, Lib.hid (fun i x h => by omega)⟩
  case round =>
    obtain ⟨k, hk, rfl, hall⟩ := hrel
    have hr := HR.out
    by_cases hlt : k < l.length
    · have hx := H.out k _ (List.getElem?_eq_getElem hlt)
      have hm : l[k] ∈ l := List.getElem_mem hlt
      have g : l[k]? = some l[k] := List.getElem?_eq_getElem hlt
      generalize l[k] = x at *
      have HM := Lib.hid hm
      have HG := Lib.hid g
      clear hm g
      by_cases hs : IsStep x
      · have hnext : Hid (∀ i y, i < k + 1 → l[i]? = some y → IsStep y) := Lib.hid (fun i y hi hy => by
          by_cases he : i < k
          · exact hall.out i y he hy
          · obtain rfl : i = k := by omega
            have := HG.out.symm.trans hy
            simp only [Option.some.injEq] at this
            rw [← this]
            exact hs)
        have c1 := fun W : World => isStep_any x W true (.inl ⟨hs, rfl⟩)
        clear hs hall hr
        go_wp2_with ((with_reducible refine (c1 _).mono ?_); rintro e w1 ⟨rfl, rfl⟩)
        first | exact ⟨⟨k + 1, by omega, by go_num, hnext⟩, by simp [intOf]; omega⟩ | (go_round; case rel => exact ⟨k + 1, by omega, by go_num, hnext⟩; case measure => simp [intOf]; omega)
      · obtain rfl : r = 1 := by
          rcases hr with ⟨_, h⟩ | ⟨h, _⟩
          · exact h
          · exact absurd (h x HM.out) hs
        have c1 := fun W : World => isStep_any x W false (.inr ⟨hs, rfl⟩)
        clear hs hall hr
        go_wp2_with ((with_reducible refine (c1 _).mono ?_); rintro e w1 ⟨rfl, rfl⟩)
        go_ret
        exact ⟨rfl, Below.refl _ _⟩
    · obtain rfl : r = 0 := by
        rcases hr with ⟨⟨t, ht, hs⟩, _⟩ | ⟨_, h⟩
        · obtain ⟨i, hi, rfl⟩ := List.getElem_of_mem ht
          exact absurd (hall.out i _ (by omega) (List.getElem?_eq_getElem hi)) hs
        · exact h
      obtain rfl : k = l.length := by omega
      clear hall hr
      go_wp2
      go_ret
      exact ⟨rfl, Below.refl _ _⟩

set_option maxHeartbeats 800000 in
theorem checkPath_nil (ao : Option Addr) (cap : Nat) (w : World) : Calls Tryz.prog 158 #[.slice ao 0 cap] w fun e w' => e = .returned (.int .i64 0) ∧ Below w.heap.size w w' := by
  go_enter Tryz.func158, Tryz.ntmps158
  go_wp2
  refine wp_loop_rounds 1 ?_
  rw [rounds_succ]
  go_wp2
  go_ret
  exact ⟨rfl, Below.refl _ _⟩
theorem checkPath_any (ao : Option Addr) (cap : Nat) (l : List Int) (r : Int) (w : World) (h : LiesOI w ao l) (hr : pathR l r) (hlen : l.length ≤ 1000000) : Calls Tryz.prog 158 #[.slice ao l.length cap] w fun e w' => e = .returned (.int .i64 r) ∧ Below w.heap.size w w' := by
  rcases h with rfl | ⟨b, off, rfl, h⟩
  · obtain rfl : r = 0 := by
      rcases hr with ⟨h, _⟩ | ⟨_, ⟨t, ht, _⟩, _⟩ | ⟨_, _, h⟩
      · simp at h
      · simp at ht
      · exact h
    exact checkPath_nil ao cap w
  · exact checkPath_some b off cap l r w h hr hlen

end Go.Proofs.YtpfhjdmgkckjfaaGreatDoor

/- Paths from their ends, as the program and the document's answers make them.
Conditions: the list lies in memory as it is written at each theorem. -/
namespace Go.Proofs.YtpfhjdmgkckjfaaGreatDoor
set_option linter.unusedVariables false
set_option linter.unusedSimpArgs false
set_option maxRecDepth 1000000
open Go.RowKit
open Tm

end Go.Proofs.YtpfhjdmgkckjfaaGreatDoor

/- Paths without steps that undo each other, as the program and the document's answers make them.
Conditions: the list lies in memory as it is written at each theorem. -/
namespace Go.Proofs.YtpfhjdmgkckjfaaGreatDoor
set_option linter.unusedVariables false
set_option linter.unusedSimpArgs false
set_option maxRecDepth 1000000
open Go.RowKit
open Tm

/-- the list that a stack lies as -/
def stl (st : List Int) : List Value := st.reverse.map vi
end Go.Proofs.YtpfhjdmgkckjfaaGreatDoor

/- Walks, as the program and the document's answers make them.
Conditions: the list lies in memory as it is written at each theorem. -/
namespace Go.Proofs.YtpfhjdmgkckjfaaGreatDoor
set_option linter.unusedVariables false
set_option linter.unusedSimpArgs false
set_option maxRecDepth 1000000
open Go.RowKit
open Tm

/-- the error of sizes, a site and a path -/
def wkR (a b c s : Int) (l : List Int) (r : Int) : Prop := (stR a b c s r ∧ r ≠ 0) ∨ (Sz a b c ∧ 0 ≤ s ∧ s < a * b * c ∧ pathR l r)
set_option maxHeartbeats 800000 in
theorem checkWalk_any (a b c s r : Int) (ao : Option Addr) (cap : Nat) (l : List Int) (w : World) (h : LiesOI w ao l) (hr : wkR a b c s l r) (hlen : l.length ≤ 1000000) : Calls Tryz.prog 148 #[.agg #[.int .i64 a, .int .i64 b, .int .i64 c], .int .i64 s, .slice ao l.length cap] w fun e w' => e = .returned (.int .i64 r) ∧ Below w.heap.size w w' := by
  rcases hr with ⟨hr, h0⟩ | ⟨hz, h0, h1, hr⟩
  · have c1 := fun W : World => checkSite_any a b c s r W hr
    have h0' : (r != 0) = true := by simpa using h0
    clear hr h h0
    go_enter Tryz.func148, Tryz.ntmps148
    go_wp2_with ((with_reducible refine (c1 _).mono ?_); rintro e w1 ⟨rfl, hw1⟩)
    go_ret
    exact ⟨rfl, by repeat (first | (with_reducible exact Below.refl _ _) | (with_reducible refine Below.setCell ?_ ?_ _) | (with_reducible refine Below.drew ?_) | (with_reducible refine Below.alloc ?_ ?_ _) | (with_reducible refine Below.trans ?_ (Below.mono hw1 ?_)) | (with_reducible exact hw1.size) | omega | (simp <;> omega) | (simp <;> (have s := hw1.size; omega)) | (have s0 := hw1.size; (try simp at s0); (try simp); omega))⟩
  · have c1 := fun W : World => checkSite_any a b c s 0 W (.inr (.inr ⟨hz, h0, h1, rfl⟩))
    have c2 : ∀ W : World, LiesOI W ao l → Calls Tryz.prog 158 #[.slice ao l.length cap] W fun e w' => e = .returned (.int .i64 r) ∧ Below W.heap.size W w' := fun W h => checkPath_any ao cap l r W h hr hlen
    have H := Lib.hid h
    clear hr h hz h0 h1
    go_enter Tryz.func148, Tryz.ntmps148
    go_wp2_with (first | ((with_reducible refine (c1 _).mono ?_); rintro e w1 ⟨rfl, hw1⟩) | ((with_reducible refine (c2 _ (H.out.later (by repeat (first | (with_reducible exact Below.refl _ _) | (with_reducible refine Below.setCell ?_ ?_ _) | (with_reducible refine Below.drew ?_) | (with_reducible refine Below.alloc ?_ ?_ _) | (with_reducible refine Below.trans ?_ (Below.mono hw1 ?_)) | (with_reducible exact hw1.size) | omega | (simp <;> omega) | (simp <;> (have s := hw1.size; omega)) | (have s0 := hw1.size; (try simp at s0); (try simp); omega))))).mono ?_); rintro e w2 ⟨rfl, hw2⟩))
    go_ret
    exact ⟨rfl, by repeat (first | (with_reducible exact Below.refl _ _) | (with_reducible refine Below.setCell ?_ ?_ _) | (with_reducible refine Below.drew ?_) | (with_reducible refine Below.alloc ?_ ?_ _) | (with_reducible refine Below.trans ?_ (Below.mono hw2 ?_)) | (with_reducible refine Below.trans ?_ (Below.mono hw1 ?_)) | (with_reducible exact hw2.size) | (with_reducible exact hw1.size) | omega | (simp <;> omega) | (simp <;> (have s := hw2.size; omega)) | (simp <;> (have s := hw1.size; omega)) | (have s0 := hw2.size; (try simp at s0); have s1 := hw1.size; (try simp at s1); (try simp); omega))⟩

/-- three numbers in a box, to be read -/
structure ABox (w : World) (b : Nat) (x y z : Int) : Prop where
  c0 : w.cell? ⟨b, 0, none⟩ = some (.int .i64 x)
  c1 : w.cell? ⟨b, 1, none⟩ = some (.int .i64 y)
  c2 : w.cell? ⟨b, 2, none⟩ = some (.int .i64 z)
  lt : b < w.heap.size
theorem ABox.later {w w1 : World} {b : Nat} {x y z : Int} (h : ABox w b x y z) (hb : Below w.heap.size w w1) : ABox w1 b x y z :=
  ⟨(hb.cell h.lt).trans h.c0, (hb.cell h.lt).trans h.c1, (hb.cell h.lt).trans h.c2, Nat.lt_of_lt_of_le h.lt hb.size⟩
theorem ABox.grown {w w1 : World} {b : Nat} {x y z : Int} {row : Option Nat} (h : ABox w b x y z) (hg : w.grownBy w1 row) (hne : some b ≠ row) : ABox w1 b x y z :=
  ⟨hg.cell h.c0 hne, hg.cell h.c1 hne, hg.cell h.c2 hne, Nat.lt_of_lt_of_le h.lt hg.size⟩

set_option maxHeartbeats 1600000 in
theorem walk_some (a b c s : Int) (ba off cap : Nat) (l : List Int) (w : World) (hz : Sz a b c) (h0 : 0 ≤ s) (h1 : s < a * b * c) (h : LiesI w ba off l) (hs : ∀ t ∈ l, IsStep t) (h8 : l.length ≤ 8) : Calls Tryz.prog 149 #[.agg #[.int .i64 a, .int .i64 b, .int .i64 c], .int .i64 s, .slice (some ⟨ba, off, none⟩) l.length cap] w fun e w' => ∃ ao k, e = .returned (.slice ao (wl a b c s l).length k) ∧ LiesOI w' ao (wl a b c s l) ∧ Below w.heap.size w w' := by
  obtain ⟨i0, hi, hi0, hi1, hi2⟩ := info_parts infoI
  have H := Lib.hid h
  have HS := Lib.hid hs
  have HN := Lib.hid (fun k (hk : k < l.length) (W : World) => next_any a b c (en a b c s (l.take k)) l[k] W hz (en_rng hz h0 h1 (l.take k)).1 (en_rng hz h0 h1 (l.take k)).2 (hs _ (List.getElem_mem hk)))
  clear h hs hz h0 h1
  go_enter Tryz.func149, Tryz.ntmps149
  go_wp2
  have hlit := World.ownsRow_lit (e := 3) (base := w.heap.size + 1) (size := 1) (w.alloc (.cells #[.int .i64 a, .int .i64 b, .int .i64 c] 22)) #[.int .i64 s] 1 (by simp) (by unfold maxLen; omega) (by simp)
  rw [World.size_alloc] at hlit
  have hbx : ABox ((w.alloc (.cells #[.int .i64 a, .int .i64 b, .int .i64 c] 22)).alloc (.cells #[.int .i64 s] 3)) w.heap.size a b c := ⟨by simp [go_sem], by simp [go_sem], by simp [go_sem], by simp <;> omega⟩
  have hB : Below w.heap.size w ((w.alloc (.cells #[.int .i64 a, .int .i64 b, .int .i64 c] 22)).alloc (.cells #[.int .i64 s] 3)) := by repeat (first | (with_reducible exact Below.refl _ _) | (with_reducible refine Below.setCell ?_ ?_ _) | (with_reducible refine Below.drew ?_) | (with_reducible refine Below.alloc ?_ ?_ _) | omega | (simp <;> omega))
  go_loopw [1, 7, 9, 14] (fun p f _ q wr => ∃ (k : Nat) (v : Value), k ≤ l.length ∧ q = .int .i64 k ∧ p = .int .i64 (en a b c s (l.take k)) ∧ v = f ∧ Hid (wr.ownsRow (w.heap.size + 1) 3 1 v (wl a b c s (l.take k)).length ((wl a b c s (l.take k)).map vi)) ∧ ABox wr w.heap.size a b c ∧ Below w.heap.size w wr) (fun _ _ _ q _ => l.length - (intOf q).toNat)
  case atStart => exact ⟨0, _, by omega, rfl, rfl, rfl, Lib.hid hlit, hbx, hB⟩
  case round =>
    obtain ⟨k, v, hk, rfl, rfl, rfl, hown, hbx1, hb⟩ := hrel
    clear hlit hbx hB
    have hbs := hb.size
    have hlb := hbx1.lt
    by_cases hlt : k < l.length
    · have x1 := H.out.later hb k _ (List.getElem?_eq_getElem hlt)
      have c1 := HN.out k hlt
      have e1 := en_take a b c s l k hlt
      have e2 := wl_take a b c s l k hlt
      rw [← e1] at c1
      have hll : (wl a b c s (l.take k)).length ≤ 9 := by rw [wl_len, List.length_take]; omega
      obtain ⟨s', hs'⟩ : ∃ s', s' = en a b c s (l.take (k + 1)) := ⟨_, rfl⟩
      rw [← hs'] at c1 e2
      have HES := Lib.hid hs'
      clear e1 hs'
      generalize en a b c s (l.take k) = s0 at *
      generalize l[k] = t at *
      have E2 := Lib.hid e2
      have HBX := Lib.hid hbx1
      obtain ⟨d0, d1, d2, -⟩ := hbx1
      clear e2
      go_wp2_with (first | ((with_reducible refine (c1 _).mono ?_); clear c1; rintro e w1 ⟨rfl, hw1⟩) | (at_builtin; refine wpList_append_own _ rfl (.tmp 22) (.tmp 24) 67 rfl (w.heap.size + 1) 3 i0 _ 1 8 Tryz.underlying67 hi hi0 hi1 hi2 rfl (by decide) v (wl a b c s (l.take k)).length ((wl a b c s (l.take k)).map vi) rfl ((owned_later hown.out hw1).alloc _) ⟨w1.heap.size, 0, none⟩ 1 1 [vi s'] rfl rfl (one_cell (by simp [go_sem, vi])) (one_one _) (by unfold maxLen; omega) (by omega) (by have := hw1.size; simp; omega) ?_; intro v' w4 hown4 hgrow4 _))
      have hfr := owned_from hown.out
      have hne := owned_ne hown.out (b := w.heap.size) (by omega)
      have hb1 : Below w.heap.size w w1 := by repeat (first | (with_reducible exact Below.refl _ _) | (with_reducible refine Below.setCell ?_ ?_ _) | (with_reducible refine Below.drew ?_) | (with_reducible refine Below.alloc ?_ ?_ _) | (with_reducible refine Below.trans ?_ (Below.mono hw1 ?_)) | (with_reducible refine Below.trans ?_ (Below.mono hb ?_)) | (with_reducible exact hw1.size) | (with_reducible exact hb.size) | omega | (simp <;> omega) | (simp <;> (have s := hw1.size; omega)) | (simp <;> (have s := hb.size; omega)) | (have s0 := hw1.size; (try simp at s0); have s1 := hb.size; (try simp at s1); (try simp); omega))
      have hb4 := (hb1.alloc hb1.size _).grown hgrow4 (by have := hb1.size; simp; omega) (fun j hj => by have := hfr j hj; omega)
      have hbx4 := ((HBX.out.later hw1).later ((Below.refl _ _).alloc (Nat.le_refl _) _)).grown hgrow4 hne
      have ho : w4.ownsRow (w.heap.size + 1) 3 1 v' (wl a b c s (l.take (k + 1))).length ((wl a b c s (l.take (k + 1))).map vi) := by
        rw [E2.out, List.length_append, List.map_append]
        exact hown4
      clear hown4 hgrow4 hown hw1
      go_wp2
      exact ⟨⟨k + 1, _, by omega, by go_num, by rw [← HES.out], rfl, Lib.hid ho, hbx4, hb4⟩, by simp [intOf]; omega⟩
    · obtain rfl : k = l.length := by omega
      have hown' : wr.ownsRow (w.heap.size + 1) 3 1 v (wl a b c s l).length ((wl a b c s l).map vi) := by
        have := hown.out
        rwa [List.take_length] at this
      obtain ⟨ao, c', rfl, hl⟩ := owned_liesOI hown'
      clear hown hown'
      go_wp2
      go_ret
      exact ⟨_, _, rfl, hl, hb⟩

set_option maxHeartbeats 800000 in
theorem walk_nil (a b c s : Int) (ao : Option Addr) (cap : Nat) (w : World) : Calls Tryz.prog 149 #[.agg #[.int .i64 a, .int .i64 b, .int .i64 c], .int .i64 s, .slice ao 0 cap] w fun e w' => ∃ g, e = .returned (.slice (some ⟨g, 0, none⟩) 1 1) ∧ LiesI w' g 0 [s] ∧ Below w.heap.size w w' := by
  go_enter Tryz.func149, Tryz.ntmps149
  go_wp2
  refine wp_loop_rounds 1 ?_
  rw [rounds_succ]
  go_wp2
  go_ret
  refine ⟨_, rfl, fun i x hx => ?_, by repeat (first | (with_reducible exact Below.refl _ _) | (with_reducible refine Below.setCell ?_ ?_ _) | (with_reducible refine Below.drew ?_) | (with_reducible refine Below.alloc ?_ ?_ _) | omega | (simp <;> omega))⟩
  match i, hx with
  | 0, hx => simp at hx; subst hx; simp [go_sem]
  | n + 1, hx => simp at hx

theorem walk_any (a b c s : Int) (ao : Option Addr) (cap : Nat) (l : List Int) (w : World) (hz : Sz a b c) (h0 : 0 ≤ s) (h1 : s < a * b * c) (h : LiesOI w ao l) (hs : ∀ t ∈ l, IsStep t) (h8 : l.length ≤ 8) : Calls Tryz.prog 149 #[.agg #[.int .i64 a, .int .i64 b, .int .i64 c], .int .i64 s, .slice ao l.length cap] w fun e w' => ∃ ao k, e = .returned (.slice ao (wl a b c s l).length k) ∧ LiesOI w' ao (wl a b c s l) ∧ Below w.heap.size w w' := by
  rcases h with rfl | ⟨ba, off, rfl, h⟩
  · exact (walk_nil a b c s ao cap w).mono fun e w' ⟨g, he, hl, hb⟩ => ⟨_, 1, he, .inr ⟨g, 0, rfl, hl⟩, hb⟩
  · exact walk_some a b c s ba off cap l w hz h0 h1 h hs h8

set_option maxHeartbeats 800000 in
theorem walkO_ok (a b c s : Int) (ao : Option Addr) (cap : Nat) (l : List Int) (w : World) (hz : Sz a b c) (h0 : 0 ≤ s) (h1 : s < a * b * c) (h : LiesOI w ao l) (hs : ∀ t ∈ l, IsStep t) (h8 : l.length ≤ 8) : Calls Tryz.prog 127 #[.agg #[.int .i64 a, .int .i64 b, .int .i64 c], .int .i64 s, .slice ao l.length cap] w fun e w' => ∃ ao k, e = .returned (.tuple #[.slice ao (wl a b c s l).length k, .int .i64 0]) ∧ LiesOI w' ao (wl a b c s l) ∧ Below w.heap.size w w' := by
  have c1 : ∀ W : World, LiesOI W ao l → Calls Tryz.prog 148 #[.agg #[.int .i64 a, .int .i64 b, .int .i64 c], .int .i64 s, .slice ao l.length cap] W fun e w' => e = .returned (.int .i64 0) ∧ Below W.heap.size W w' := fun W h => checkWalk_any a b c s 0 ao cap l W h (.inr ⟨hz, h0, h1, .inr (.inr ⟨h8, hs, rfl⟩)⟩) (by omega)
  have c2 : ∀ W : World, LiesOI W ao l → Calls Tryz.prog 149 #[.agg #[.int .i64 a, .int .i64 b, .int .i64 c], .int .i64 s, .slice ao l.length cap] W fun e w' => ∃ ao k, e = .returned (.slice ao (wl a b c s l).length k) ∧ LiesOI w' ao (wl a b c s l) ∧ Below W.heap.size W w' := fun W h => walk_any a b c s ao cap l W hz h0 h1 h hs h8
  have H := Lib.hid h
  clear h hz h0 h1 hs
  go_enter Tryz.func127, Tryz.ntmps127
  go_wp2_with (first | ((with_reducible refine (c1 _ (H.out.later (by repeat (first | (with_reducible exact Below.refl _ _) | (with_reducible refine Below.setCell ?_ ?_ _) | (with_reducible refine Below.drew ?_) | (with_reducible refine Below.alloc ?_ ?_ _) | omega | (simp <;> omega))))).mono ?_); rintro e w1 ⟨rfl, hw1⟩; have hc1 := Tail.cells hw1; have z0 := Nat.lt_of_lt_of_le (n := w.heap.size) (by simp) hw1.size) | ((with_reducible refine (c2 _ (H.out.later (by repeat (first | (with_reducible exact Below.refl _ _) | (with_reducible refine Below.setCell ?_ ?_ _) | (with_reducible refine Below.drew ?_) | (with_reducible refine Below.alloc ?_ ?_ _) | (with_reducible refine Below.trans ?_ (Below.mono hw1 ?_)) | (with_reducible exact hw1.size) | omega | (simp <;> omega) | (simp <;> (have s := hw1.size; omega)) | (have s0 := hw1.size; (try simp at s0); (try simp); omega))))).mono ?_); rintro e w2 ⟨a2, k2, rfl, hl2, hw2⟩; have HL := Lib.hid hl2; clear hl2))
  go_ret2
  exact ⟨_, _, rfl, HL.out, by repeat (first | (with_reducible exact Below.refl _ _) | (with_reducible refine Below.setCell ?_ ?_ _) | (with_reducible refine Below.drew ?_) | (with_reducible refine Below.alloc ?_ ?_ _) | (with_reducible refine Below.trans ?_ (Below.mono hw2 ?_)) | (with_reducible refine Below.trans ?_ (Below.mono hw1 ?_)) | (with_reducible exact hw2.size) | (with_reducible exact hw1.size) | omega | (simp <;> omega) | (simp <;> (have s := hw2.size; omega)) | (simp <;> (have s := hw1.size; omega)) | (have s0 := hw2.size; (try simp at s0); have s1 := hw1.size; (try simp at s1); (try simp); omega))⟩

end Go.Proofs.YtpfhjdmgkckjfaaGreatDoor
