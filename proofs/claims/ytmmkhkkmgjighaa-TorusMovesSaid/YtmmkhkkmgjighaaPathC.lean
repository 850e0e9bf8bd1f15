/- Which lists are paths, as the program and the document's answers find it.
Conditions: the list lies in memory as it is written at each theorem. -/
import Derived.Test.YtmmkhkkmgjighaaInts
import Derived.Test.YtmmkhkkmgjighaaMathA
namespace Go.Proofs.Ytmmkhkkmgjighaa
set_option linter.unusedVariables false
set_option linter.unusedSimpArgs false
set_option maxRecDepth 1000000
open Go.RowKit
open Tm

set_option maxHeartbeats 1600000 in
theorem checkPath_some (b off cap : Nat) (l : List Int) (r : Int) (w : World) (h : LiesI w b off l) (hr0 : pathR l r) (hlen : l.length ≤ 1000000) : Calls Try.prog 74 #[.slice (some ⟨b, off, none⟩) l.length cap] w fun e w' => e = .returned (.int .i64 r) ∧ Below w.heap.size w w' := by
  rcases hr0 with ⟨h8, rfl⟩ | hr0
  · have h8' : (8 : Int) < (l.length : Int) := by omega
    go_enter Try.func74, Try.ntmps74
    go_wp2
    go_ret
    exact ⟨rfl, Below.refl _ _⟩
  have h8 : l.length ≤ 8 := by rcases hr0 with h | h <;> exact h.1
  have hr : ((∃ t ∈ l, ¬ IsStep t) ∧ r = 1) ∨ ((∀ t ∈ l, IsStep t) ∧ r = 0) := by
    rcases hr0 with h | h
    · exact .inl h.2
    · exact .inr h.2
  have H := Lib.hid h
  have HR := Lib.hid hr
  have h8' : ¬ (8 : Int) < (l.length : Int) := by omega
  clear h hr hr0
  go_enter Try.func74, Try.ntmps74
  go_wp2
  go_loop [4, 10] (fun _ q => ∃ k : Nat, k ≤ l.length ∧ q = .int .i64 k ∧ Hid (∀ i x, i < k → l[i]? = some x → IsStep x)) (fun _ q => l.length - (intOf q).toNat)
  case atStart => exact ⟨0, by omega, rfl, Lib.hid (fun i x h => by omega)⟩
  case round =>
    obtain ⟨k, hk, rfl, hall⟩ := hrel
    have hr := HR.out
    by_cases hlt : k < l.length
    · have hx := H.out k _ (List.getElem?_eq_getElem hlt)
      have hm : l[k] ∈ l := List.getElem_mem hlt
      have g : l[k]? = some l[k] := List.getElem?_eq_getElem hlt
      generalize l[k] = x at *
      have HM := Lib.hid hm
      have HG := Lib.hid g
      clear hm g
      by_cases hs : IsStep x
      · have hnext : Hid (∀ i y, i < k + 1 → l[i]? = some y → IsStep y) := Lib.hid (fun i y hi hy => by
          by_cases he : i < k
          · exact hall.out i y he hy
          · obtain rfl : i = k := by omega
            have := HG.out.symm.trans hy
            simp only [Option.some.injEq] at this
            rw [← this]
            exact hs)
        have c1 := fun W : World => isStep_any x W true (.inl ⟨hs, rfl⟩)
        clear hs hall hr
        go_wp2_with ((with_reducible refine (c1 _).mono ?_); rintro e w1 ⟨rfl, rfl⟩)
        first | exact ⟨⟨k + 1, by omega, by go_num, hnext⟩, by simp [intOf]; omega⟩ | (go_round; case rel => exact ⟨k + 1, by omega, by go_num, hnext⟩; case measure => simp [intOf]; omega)
      · obtain rfl : r = 1 := by
          rcases hr with ⟨_, h⟩ | ⟨h, _⟩
          · exact h
          · exact absurd (h x HM.out) hs
        have c1 := fun W : World => isStep_any x W false (.inr ⟨hs, rfl⟩)
        clear hs hall hr
        go_wp2_with ((with_reducible refine (c1 _).mono ?_); rintro e w1 ⟨rfl, rfl⟩)
        go_ret
        exact ⟨rfl, Below.refl _ _⟩
    · obtain rfl : r = 0 := by
        rcases hr with ⟨⟨t, ht, hs⟩, _⟩ | ⟨_, h⟩
        · obtain ⟨i, hi, rfl⟩ := List.getElem_of_mem ht
          exact absurd (hall.out i _ (by omega) (List.getElem?_eq_getElem hi)) hs
        · exact h
      obtain rfl : k = l.length := by omega
      clear hall hr
      go_wp2
      go_ret
      exact ⟨rfl, Below.refl _ _⟩

set_option maxHeartbeats 800000 in
theorem checkPath_nil (ao : Option Addr) (cap : Nat) (w : World) : Calls Try.prog 74 #[.slice ao 0 cap] w fun e w' => e = .returned (.int .i64 0) ∧ Below w.heap.size w w' := by
  go_enter Try.func74, Try.ntmps74
  go_wp2
  refine wp_loop_rounds 1 ?_
  rw [rounds_succ]
  go_wp2
  go_ret
  exact ⟨rfl, Below.refl _ _⟩
theorem checkPath_any (ao : Option Addr) (cap : Nat) (l : List Int) (r : Int) (w : World) (h : LiesOI w ao l) (hr : pathR l r) (hlen : l.length ≤ 1000000) : Calls Try.prog 74 #[.slice ao l.length cap] w fun e w' => e = .returned (.int .i64 r) ∧ Below w.heap.size w w' := by
  rcases h with rfl | ⟨b, off, rfl, h⟩
  · obtain rfl : r = 0 := by
      rcases hr with ⟨h, _⟩ | ⟨_, ⟨t, ht, _⟩, _⟩ | ⟨_, _, h⟩
      · simp at h
      · simp at ht
      · exact h
    exact checkPath_nil ao cap w
  · exact checkPath_some b off cap l r w h hr hlen

set_option maxHeartbeats 1600000 in
theorem isPath_some (b off cap : Nat) (l : List Int) (r : Int) (w : World) (h : LiesI w b off l) (hr0 : pathR l r) (hlen : l.length ≤ 1000000) : Calls Try.prog 72 #[.slice (some ⟨b, off, none⟩) l.length cap] w fun e w' => e = .returned (.int .i64 r) ∧ Below w.heap.size w w' := by
  rcases hr0 with ⟨h8, rfl⟩ | hr0
  · have h8' : (8 : Int) < (l.length : Int) := by omega
    go_enter Try.func72, Try.ntmps72
    go_wp2
    go_ret
    exact ⟨rfl, Below.refl _ _⟩
  have h8 : l.length ≤ 8 := by rcases hr0 with h | h <;> exact h.1
  have hr : ((∃ t ∈ l, ¬ IsStep t) ∧ r = 1) ∨ ((∀ t ∈ l, IsStep t) ∧ r = 0) := by
    rcases hr0 with h | h
    · exact .inl h.2
    · exact .inr h.2
  have H := Lib.hid h
  have HR := Lib.hid hr
  have h8' : ¬ (8 : Int) < (l.length : Int) := by omega
  clear h hr hr0
  go_enter Try.func72, Try.ntmps72
  go_wp2
  go_loop [3] (fun q => ∃ k : Nat, k ≤ l.length ∧ q = .int .i64 k ∧ Hid (∀ i x, i < k → l[i]? = some x → IsStep x)) (fun q => l.length - (intOf q).toNat)
  case atStart => exact ⟨0, by omega, rfl, Lib.hid (fun i x h => by omega)⟩
  case round =>
    obtain ⟨k, hk, rfl, hall⟩ := hrel
    have hr := HR.out
    by_cases hlt : k < l.length
    · have hx := H.out k _ (List.getElem?_eq_getElem hlt)
      have hm : l[k] ∈ l := List.getElem_mem hlt
      have g : l[k]? = some l[k] := List.getElem?_eq_getElem hlt
      generalize l[k] = x at *
      have HM := Lib.hid hm
      have HG := Lib.hid g
      clear hm g
      by_cases hs : IsStep x
      · have hnext : Hid (∀ i y, i < k + 1 → l[i]? = some y → IsStep y) := Lib.hid (fun i y hi hy => by
          by_cases he : i < k
          · exact hall.out i y he hy
          · obtain rfl : i = k := by omega
            have := HG.out.symm.trans hy
            simp only [Option.some.injEq] at this
            rw [← this]
            exact hs)
        have c1 := fun W : World => within2_any x (-3) 3 W true (.inl ⟨hs.2.1, hs.2.2, rfl⟩)
        have x0 : (x == 0) = false := by simpa using hs.1
        clear hs hall hr
        go_wp2_with ((with_reducible refine (c1 _).mono ?_); rintro e w1 ⟨rfl, rfl⟩)
        first | exact ⟨⟨k + 1, by omega, by go_num, hnext⟩, by simp [intOf]; omega⟩ | (go_round; case rel => exact ⟨k + 1, by omega, by go_num, hnext⟩; case measure => simp [intOf]; omega)
      · obtain rfl : r = 1 := by
          rcases hr with ⟨_, h⟩ | ⟨h, _⟩
          · exact h
          · exact absurd (h x HM.out) hs
        have c1 : ∃ q, (∀ W : World, Calls Try.prog 110 #[.int .i64 x, .int .i64 (-3), .int .i64 3] W fun e w' => e = .returned (.bool q) ∧ W = w') ∧ (q = false ∨ (q = true ∧ x = 0)) := by
          by_cases h3 : -3 ≤ x ∧ x ≤ 3
          · exact ⟨true, fun W => within2_any x (-3) 3 W true (.inl ⟨h3.1, h3.2, rfl⟩), .inr ⟨rfl, Classical.byContradiction fun h0 => hs ⟨h0, h3.1, h3.2⟩⟩⟩
          · exact ⟨false, fun W => within2_any x (-3) 3 W false (.inr ⟨h3, rfl⟩), .inl rfl⟩
        obtain ⟨q, c1, hq⟩ := c1
        clear hs hall hr
        rcases hq with rfl | ⟨rfl, rfl⟩
        all_goals
          go_wp2_with ((with_reducible refine (c1 _).mono ?_); rintro e w1 ⟨rfl, rfl⟩)
          go_ret
          exact ⟨rfl, Below.refl _ _⟩
    · obtain rfl : r = 0 := by
        rcases hr with ⟨⟨t, ht, hs⟩, _⟩ | ⟨_, h⟩
        · obtain ⟨i, hi, rfl⟩ := List.getElem_of_mem ht
          exact absurd (hall.out i _ (by omega) (List.getElem?_eq_getElem hi)) hs
        · exact h
      obtain rfl : k = l.length := by omega
      clear hall hr
      go_wp2
      go_ret
      exact ⟨rfl, Below.refl _ _⟩

set_option maxHeartbeats 800000 in
theorem isPath_nil (ao : Option Addr) (cap : Nat) (w : World) : Calls Try.prog 72 #[.slice ao 0 cap] w fun e w' => e = .returned (.int .i64 0) ∧ Below w.heap.size w w' := by
  go_enter Try.func72, Try.ntmps72
  go_wp2
  refine wp_loop_rounds 1 ?_
  rw [rounds_succ]
  go_wp2
  go_ret
  exact ⟨rfl, Below.refl _ _⟩
theorem isPath_any (ao : Option Addr) (cap : Nat) (l : List Int) (r : Int) (w : World) (h : LiesOI w ao l) (hr : pathR l r) (hlen : l.length ≤ 1000000) : Calls Try.prog 72 #[.slice ao l.length cap] w fun e w' => e = .returned (.int .i64 r) ∧ Below w.heap.size w w' := by
  rcases h with rfl | ⟨b, off, rfl, h⟩
  · obtain rfl : r = 0 := by
      rcases hr with ⟨h, _⟩ | ⟨_, ⟨t, ht, _⟩, _⟩ | ⟨_, _, h⟩
      · simp at h
      · simp at ht
      · exact h
    exact isPath_nil ao cap w
  · exact isPath_some b off cap l r w h hr hlen
end Go.Proofs.Ytmmkhkkmgjighaa
