/- Sums of 24 weights, and the value that a draw leads to, on both sides; what is a value.
Conditions: those written at each theorem. -/
import Derived.Test.YtpfhjdmgkckjfaaGreatDoorAWsC
import Derived.Test.YtpfhjdmgkckjfaaGreatDoorATabB
import Derived.Test.YtpfhjdmgkckjfaaGreatDoorAWlkA
namespace Go.Proofs.YtpfhjdmgkckjfaaGreatDoor
set_option linter.unusedVariables false
set_option linter.unusedSimpArgs false
set_option maxRecDepth 1000000
open Go.RowKit
open Um Tm Cm

theorem int_index (l : List Int) (hl : l.length = 24) (k : Nat) (x : Int) (hx : l[k]? = some x) (W : World) : (Instr.index 29 (.agg (l.map vi).toArray) (.int .i64 k)).run Tryz.prog W = .ok (.int .i64 x) W := by
  have hk := (List.getElem?_eq_some_iff.1 hx).1
  have h1 : (0 : Int) ≤ k ∧ (k : Int) < 24 := by omega
  have hsz : (sizeOf 3).run Tryz.prog W = .ok 1 W := Tryz.sizeOf3 W
  have hag : (isAgg 3).run Tryz.prog W = .ok false W := Tryz.isAgg3 W
  have hg : (l.map vi)[k]? = some (.int .i64 x) := by rw [List.getElem?_map, hx]; rfl
  simp [Instr.index, run_underlying Tryz.underlying29, asIntOf, part, hsz, hag]
  rw [if_pos (by omega)]
  simp [hx, vi]
/-- weights that can be summed -/
structure WL (l : List Int) : Prop where
  n : l.length = 24
  lo : ∀ x ∈ l, 1 ≤ x
  hi : ∀ x ∈ l, x ≤ 100000000
theorem WL.ps {l : List Int} (h : WL l) (j : Nat) (hj : j ≤ 24) : 0 ≤ psum l j ∧ psum l j ≤ 2400000000 := by
  have := psum_ge h.lo j (by rw [h.n]; omega)
  have := psum_le h.hi j (by rw [h.n]; omega)
  omega
theorem WL.sz {l : List Int} (h : WL l) : (Tryz.prog.info? 29).map (·.size) = some (l.map vi).toArray.size := by rw [infoWs, List.size_toArray, List.length_map, h.n]
/-- an array that a result can hold -/
structure R24 (A : Array Value) : Prop where
  sz : (Tryz.prog.info? 29).map (·.size) = some A.size
  ol : ((#[.int .i64 0, .int .i64 0, .int .i64 0, .int .i64 0, .int .i64 0, .int .i64 0, .int .i64 0, .int .i64 0, .int .i64 0, .int .i64 0, .int .i64 0, .int .i64 0, .int .i64 0, .int .i64 0, .int .i64 0, .int .i64 0, .int .i64 0, .int .i64 0, .int .i64 0, .int .i64 0, .int .i64 0, .int .i64 0, .int .i64 0, .int .i64 0] : Array Value).toList.toArray).size = A.size
  one : A.all (·.oneCell') = true
theorem r24_new (W : World) (A : Array Value) : ((W.alloc (.cells #[.int .i64 0, .int .i64 0, .int .i64 0, .int .i64 0, .int .i64 0, .int .i64 0, .int .i64 0, .int .i64 0, .int .i64 0, .int .i64 0, .int .i64 0, .int .i64 0, .int .i64 0, .int .i64 0, .int .i64 0, .int .i64 0, .int .i64 0, .int .i64 0, .int .i64 0, .int .i64 0, .int .i64 0, .int .i64 0, .int .i64 0, .int .i64 0] 29)).setRow W.heap.size A).heap[W.heap.size]? = some (.cells A 29 (0, 0)) := setRow_heap _ _ _ A 29 (0, 0) (ABx.news (w := W) (T := 29) #[.int .i64 0, .int .i64 0, .int .i64 0, .int .i64 0, .int .i64 0, .int .i64 0, .int .i64 0, .int .i64 0, .int .i64 0, .int .i64 0, .int .i64 0, .int .i64 0, .int .i64 0, .int .i64 0, .int .i64 0, .int .i64 0, .int .i64 0, .int .i64 0, .int .i64 0, .int .i64 0, .int .i64 0, .int .i64 0, .int .i64 0, .int .i64 0]).h
theorem r24_below (W : World) (A : Array Value) : Below W.heap.size W ((W.alloc (.cells #[.int .i64 0, .int .i64 0, .int .i64 0, .int .i64 0, .int .i64 0, .int .i64 0, .int .i64 0, .int .i64 0, .int .i64 0, .int .i64 0, .int .i64 0, .int .i64 0, .int .i64 0, .int .i64 0, .int .i64 0, .int .i64 0, .int .i64 0, .int .i64 0, .int .i64 0, .int .i64 0, .int .i64 0, .int .i64 0, .int .i64 0, .int .i64 0] 29)).setRow W.heap.size A) := by
  have b0 : Below W.heap.size W (W.alloc (.cells #[.int .i64 0, .int .i64 0, .int .i64 0, .int .i64 0, .int .i64 0, .int .i64 0, .int .i64 0, .int .i64 0, .int .i64 0, .int .i64 0, .int .i64 0, .int .i64 0, .int .i64 0, .int .i64 0, .int .i64 0, .int .i64 0, .int .i64 0, .int .i64 0, .int .i64 0, .int .i64 0, .int .i64 0, .int .i64 0, .int .i64 0, .int .i64 0] 29)) := ba1
  exact b0.grown (grown_setRow _ W.heap.size A) b0.size (fun i hi => by simp at hi; omega)
theorem R24.z : R24 #[.int .i64 0, .int .i64 0, .int .i64 0, .int .i64 0, .int .i64 0, .int .i64 0, .int .i64 0, .int .i64 0, .int .i64 0, .int .i64 0, .int .i64 0, .int .i64 0, .int .i64 0, .int .i64 0, .int .i64 0, .int .i64 0, .int .i64 0, .int .i64 0, .int .i64 0, .int .i64 0, .int .i64 0, .int .i64 0, .int .i64 0, .int .i64 0] := ⟨infoWs, rfl, by rw [← zero24_eq]; exact wsOne _⟩
theorem R24.of {l : List Int} (h : l.length = 24) : R24 (l.map vi).toArray := ⟨by rw [infoWs, List.size_toArray, List.length_map, h], by rw [show (l.map vi).toArray.size = 24 by simp [h]]; rfl, wsOne l⟩
set_option maxHeartbeats 1600000 in
theorem sum5_any (l : List Int) (w : World) (h : WL l) : Calls Tryz.prog 46 #[.agg (l.map vi).toArray] w fun e w' => e = .returned (.int .i64 (psum l 24)) ∧ Below w.heap.size w w' := by
  have HI := Lib.hid (int_index l h.n)
  have HW := Lib.hid h
  have HP := Lib.hid h.ps
  have HSZ := Lib.hid h.sz
  have P0 := Lib.hid (psum_zero l)
  clear h
  generalize hA : (l.map vi).toArray = A at *
  have tb0 := Lib.hid (ABx.news (w := w) (T := 29) A)
  have hB : Below w.heap.size w (w.alloc (.cells A 29)) := ba1
  clear hA
  go_enter Tryz.func46, Tryz.ntmps46
  go_wp2_with (refine wpList_load_row rfl 29 (.tmp 1) rfl w.heap.size rfl 29 A (0, 0) _ tb0.out.h Tryz.underlying29 rfl HSZ.out ?_)
  clear tb0
  go_loopw [3, 5, 7] (fun t _ q wr => ∃ (j : Nat), j ≤ 24 ∧ q = .int .i64 j ∧ t = .int .i64 (psum l j) ∧ Below w.heap.size w wr) (fun _ _ q _ => 24 - (intOf q).toNat)
  case atStart => exact ⟨0, by omega, rfl, by rw [P0.out], hB⟩
  case round =>
    obtain ⟨j, hj, rfl, rfl, hb⟩ := hrel
    clear hB
    by_cases hlt : j < 24
    · have i1 : (j : Int) < 24 := by omega
      have hx : l[j]? = some (l[j]'(by rw [HW.out.n]; exact hlt)) := List.getElem?_eq_getElem _
      have hidx := HI.out j _ hx
      have hs := Lib.hid (psum_succ hx)
      have hr := HW.out.hi _ (List.mem_of_getElem? hx)
      have hr0 := HW.out.lo _ (List.mem_of_getElem? hx)
      generalize l[j]'(by rw [HW.out.n]; exact hlt) = x at *
      obtain ⟨g0, g1⟩ := HP.out j (by omega)
      clear hx
      go_wp2
      exact ⟨⟨j + 1, by omega, by go_num, by rw [hs.out], hb⟩, by simp [intOf]; omega⟩
    · obtain rfl : j = 24 := by omega
      go_wp2
      go_ret
      exact ⟨rfl, hb⟩
set_option maxHeartbeats 1600000 in
theorem refSum5_any (l : List Int) (w : World) (h : WL l) : Calls Tryz.prog 50 #[.agg (l.map vi).toArray] w fun e w' => e = .returned (.int .i64 (psum l 24)) ∧ Below w.heap.size w w' := by
  have HW := Lib.hid h
  have HP := Lib.hid h.ps
  have P0 := Lib.hid (psum_zero l)
  have HC : ∀ j x, l[j]? = some x → (l.map vi)[j]? = some (Value.int .i64 x) := fun j x hx => by rw [List.getElem?_map, hx]; rfl
  have HCC := Lib.hid HC
  clear h HC
  have tb0 := (ABx.news (w := w) (T := 29) (l.map vi).toArray)
  have hB : Below w.heap.size w (w.alloc (.cells (l.map vi).toArray 29)) := ba1
  go_enter Tryz.func50, Tryz.ntmps50
  go_wp2
  generalize w.alloc (.cells (l.map vi).toArray 29) = W0 at *
  have T0 := Lib.hid tb0
  clear tb0
  go_loopw [3, 4] (fun t q wr => ∃ (j : Nat), j ≤ 24 ∧ q = .int .i64 j ∧ t = .int .i64 (psum l j) ∧ Hid (ABx wr w.heap.size 29 (l.map vi)) ∧ Below w.heap.size w wr) (fun _ q _ => 24 - (intOf q).toNat)
  case atStart => exact ⟨0, by omega, rfl, by rw [P0.out], T0, hB⟩
  case round =>
    obtain ⟨j, hj, rfl, rfl, tb, hb⟩ := hrel
    clear hB
    by_cases hlt : j < 24
    · have i1 : (j : Int) < 24 := by omega
      have hx : l[j]? = some (l[j]'(by rw [HW.out.n]; exact hlt)) := List.getElem?_eq_getElem _
      have g := (tb.out.cell j).trans (HCC.out j _ hx)
      have hs := Lib.hid (psum_succ hx)
      have hr := HW.out.hi _ (List.mem_of_getElem? hx)
      have hr0 := HW.out.lo _ (List.mem_of_getElem? hx)
      generalize l[j]'(by rw [HW.out.n]; exact hlt) = x at *
      obtain ⟨g0, g1⟩ := HP.out j (by omega)
      clear hx
      go_wp2
      exact ⟨⟨j + 1, by omega, by go_num, by rw [hs.out], tb, hb⟩, by simp [intOf]; omega⟩
    · obtain rfl : j = 24 := by omega
      go_wp2
      go_ret
      exact ⟨rfl, hb⟩
set_option maxHeartbeats 1600000 in
theorem chosen5_any (l : List Int) (d : Int) (k : Nat) (w : World) (h : WL l) (hk : Ch l d k) : Calls Tryz.prog 48 #[.agg (l.map vi).toArray, .int .i64 d] w fun e w' => e = .returned (.int .i64 k) ∧ Below w.heap.size w w' := by
  have HW := Lib.hid h
  have HK := Lib.hid hk
  have HLE := Lib.hid (fun j => Ch_le h.lo hk (j := j))
  have hk24 : k < 24 := by have := hk.1; have := h.n; omega
  have HP := Lib.hid h.ps
  have P0 := Lib.hid (psum_zero l)
  have HC : ∀ j x, l[j]? = some x → (l.map vi)[j]? = some (Value.int .i64 x) := fun j x hx => by rw [List.getElem?_map, hx]; rfl
  have HCC := Lib.hid HC
  have hd : 0 ≤ d ∧ d < 2400000000 := by have h1 := (h.ps k (by omega)).1; have h2 := (h.ps (k + 1) (by omega)).2; have h3 := hk.2; omega
  obtain ⟨hd0, hd1⟩ := hd
  clear h HC hk
  have tb0 := (ABx.news (w := w) (T := 29) (l.map vi).toArray)
  have hB : Below w.heap.size w (w.alloc (.cells (l.map vi).toArray 29)) := ba1
  go_enter Tryz.func48, Tryz.ntmps48
  go_wp2
  generalize w.alloc (.cells (l.map vi).toArray 29) = W0 at *
  have T0 := Lib.hid tb0
  clear tb0
  go_loopw [1, 5] (fun t q wr => ∃ (j : Nat), j ≤ k ∧ q = .int .i64 j ∧ t = .int .i64 (d - psum l j) ∧ Hid (ABx wr w.heap.size 29 (l.map vi)) ∧ Below w.heap.size w wr) (fun _ q _ => 24 - (intOf q).toNat)
  case atStart => exact ⟨0, by omega, rfl, by rw [P0.out, Int.sub_zero], T0, hB⟩
  case round =>
    obtain ⟨j, hj, rfl, rfl, tb, hb⟩ := hrel
    clear hB
    have hx : l[j]? = some (l[j]'(by rw [HW.out.n]; omega)) := List.getElem?_eq_getElem _
    have g := (tb.out.cell j).trans (HCC.out j _ hx)
    have hs := psum_succ hx
    have hr := HW.out.hi _ (List.mem_of_getElem? hx)
    have hr0 := HW.out.lo _ (List.mem_of_getElem? hx)
    generalize l[j]'(by rw [HW.out.n]; omega) = x at *
    obtain ⟨g0, g1⟩ := HP.out j (by omega)
    have i0 : (j : Int) < 24 := by omega
    by_cases hlt : j < k
    · have i1 := HLE.out j hlt
      have i2 : d - psum l j ≥ x := by omega
      have hs' := Lib.hid hs
      clear hx hs
      go_wp2
      exact ⟨⟨j + 1, by omega, by go_num, by rw [hs'.out]; congr 1; omega, tb, hb⟩, by simp [intOf]; omega⟩
    · obtain rfl : j = k := by omega
      have i2 : ¬ d - psum l j ≥ x := by have := HK.out.2.2; omega
      clear hx hs
      go_wp2
      go_ret
      exact ⟨rfl, hb⟩
set_option maxHeartbeats 1600000 in
theorem refChosen5_any (l : List Int) (d : Int) (k : Nat) (w : World) (h : WL l) (hk : Ch l d k) : Calls Tryz.prog 51 #[.agg (l.map vi).toArray, .int .i64 d] w fun e w' => e = .returned (.int .i64 k) ∧ Below w.heap.size w w' := by
  have HW := Lib.hid h
  have HK := Lib.hid hk
  have HLE := Lib.hid (fun j => Ch_le h.lo hk (j := j))
  have hk24 : k < 24 := by have := hk.1; have := h.n; omega
  have HP := Lib.hid h.ps
  have P0 := Lib.hid (psum_zero l)
  have HC : ∀ j x, l[j]? = some x → (l.map vi)[j]? = some (Value.int .i64 x) := fun j x hx => by rw [List.getElem?_map, hx]; rfl
  have HCC := Lib.hid HC
  have hx0 : l[0]? = some (l[0]'(by rw [h.n]; omega)) := List.getElem?_eq_getElem _
  have hp1 := psum_succ hx0
  rw [psum_zero, Int.zero_add] at hp1
  have hc0 := HC 0 _ hx0
  generalize l[0]'(by rw [h.n]; omega) = x0 at *
  have P1 := Lib.hid hp1
  clear h HC hk hx0 hp1
  have tb0 := (ABx.news (w := w) (T := 29) (l.map vi).toArray)
  have hB : Below w.heap.size w (w.alloc (.cells (l.map vi).toArray 29)) := ba1
  go_enter Tryz.func51, Tryz.ntmps51
  have gg := (tb0.cell 0).trans hc0
  go_wp2
  generalize w.alloc (.cells (l.map vi).toArray 29) = W0 at *
  have T0 := Lib.hid tb0
  clear tb0 hc0
  go_loopw [5, 6] (fun q t wr => ∃ (j : Nat), j ≤ k ∧ q = .int .i64 j ∧ t = .int .i64 (psum l (j + 1)) ∧ Hid (ABx wr w.heap.size 29 (l.map vi)) ∧ Below w.heap.size w wr) (fun q _ _ => 24 - (intOf q).toNat)
  case atStart => exact ⟨0, by omega, rfl, by rw [P1.out], T0, hB⟩
  case round =>
    obtain ⟨j, hj, rfl, rfl, tb, hb⟩ := hrel
    clear hB gg
    obtain ⟨g0, g1⟩ := HP.out (j + 1) (by omega)
    have i0 : (j : Int) < 24 := by omega
    by_cases hlt : j < k
    · have hx : l[j + 1]? = some (l[j + 1]'(by rw [HW.out.n]; omega)) := List.getElem?_eq_getElem _
      have g := (tb.out.cell (j + 1)).trans (HCC.out (j + 1) _ hx)
      have hs := psum_succ hx
      have hr := HW.out.hi _ (List.mem_of_getElem? hx)
      have hr0 := HW.out.lo _ (List.mem_of_getElem? hx)
      generalize l[j + 1]'(by rw [HW.out.n]; omega) = x at *
      have i1 := HLE.out j hlt
      have i4 : (j : Int) + 1 < 24 := by omega
      have hs' := Lib.hid hs
      clear hx hs
      go_wp2
      exact ⟨⟨j + 1, by omega, by go_num, by rw [hs'.out], tb, hb⟩, by simp [intOf]; omega⟩
    · obtain rfl : j = k := by omega
      have i2 : ¬ psum l (j + 1) ≤ d := by have := HK.out.2.2; omega
      go_wp2
      go_ret
      exact ⟨rfl, hb⟩
end Go.Proofs.YtpfhjdmgkckjfaaGreatDoor
