/- Sums of 24 weights, and the value that a draw leads to, on both sides; what is a value.
Conditions: those written at each theorem. -/
import Derived.Test.YtpfhjdmgkckjfaaGreatDoorFWsC
import Derived.Test.YtpfhjdmgkckjfaaGreatDoorFInts
import Derived.Test.YtpfhjdmgkckjfaaGreatDoorFWlkA
namespace Go.Proofs.YtpfhjdmgkckjfaaGreatDoor
set_option linter.unusedVariables false
set_option linter.unusedSimpArgs false
set_option maxRecDepth 1000000
open Go.RowKit
open Um Tm Cm

theorem int_index (l : List Int) (hl : l.length = 24) (k : Nat) (x : Int) (hx : l[k]? = some x) (W : World) : (Instr.index 29 (.agg (l.map vi).toArray) (.int .i64 k)).run Tryz.prog W = .ok (.int .i64 x) W := by
  have hk := (List.getElem?_eq_some_iff.1 hx).1
  have h1 : (0 : Int) ≤ k ∧ (k : Int) < 24 := by omega
  have hsz : (sizeOf 3).run Tryz.prog W = .ok 1 W := Tryz.sizeOf3 W
  have hag : (isAgg 3).run Tryz.prog W = .ok false W := Tryz.isAgg3 W
  have hg : (l.map vi)[k]? = some (.int .i64 x) := by rw [List.getElem?_map, hx]; rfl
  simp [Instr.index, run_underlying Tryz.underlying29, asIntOf, part, hsz, hag]
  rw [if_pos (by omega)]
  simp [hx, vi]
/-- weights that can be summed -/
structure WL (l : List Int) : Prop where
  n : l.length = 24
  lo : ∀ x ∈ l, 1 ≤ x
  hi : ∀ x ∈ l, x ≤ 100000000
theorem WL.ps {l : List Int} (h : WL l) (j : Nat) (hj : j ≤ 24) : 0 ≤ psum l j ∧ psum l j ≤ 2400000000 := by
  have := psum_ge h.lo j (by rw [h.n]; omega)
  have := psum_le h.hi j (by rw [h.n]; omega)
  omega
theorem WL.sz {l : List Int} (h : WL l) : (Tryz.prog.info? 29).map (·.size) = some (l.map vi).toArray.size := by rw [infoWs, List.size_toArray, List.length_map, h.n]
/-- an array that a result can hold -/
structure R24 (A : Array Value) : Prop where
  sz : (Tryz.prog.info? 29).map (·.size) = some A.size
  ol : ((#[.int .i64 0, .int .i64 0, .int .i64 0, .int .i64 0, .int .i64 0, .int .i64 0, .int .i64 0, .int .i64 0, .int .i64 0, .int .i64 0, .int .i64 0, .int .i64 0, .int .i64 0, .int .i64 0, .int .i64 0, .int .i64 0, .int .i64 0, .int .i64 0, .int .i64 0, .int .i64 0, .int .i64 0, .int .i64 0, .int .i64 0, .int .i64 0] : Array Value).toList.toArray).size = A.size
  one : A.all (·.oneCell') = true
theorem r24_later {W W1 : World} {m : Nat} {A : Array Value} (h : W.heap[m]? = some (.cells A 29 (0, 0))) (hb : Below W.heap.size W W1) : W1.heap[m]? = some (.cells A 29 (0, 0)) := (hb.block m (Array.getElem?_eq_some_iff.1 h).1).trans h
theorem r24_new (W : World) (A : Array Value) : ((W.alloc (.cells #[.int .i64 0, .int .i64 0, .int .i64 0, .int .i64 0, .int .i64 0, .int .i64 0, .int .i64 0, .int .i64 0, .int .i64 0, .int .i64 0, .int .i64 0, .int .i64 0, .int .i64 0, .int .i64 0, .int .i64 0, .int .i64 0, .int .i64 0, .int .i64 0, .int .i64 0, .int .i64 0, .int .i64 0, .int .i64 0, .int .i64 0, .int .i64 0] 29)).setRow W.heap.size A).heap[W.heap.size]? = some (.cells A 29 (0, 0)) := setRow_heap _ _ _ A 29 (0, 0) (ABx.news (w := W) (T := 29) #[.int .i64 0, .int .i64 0, .int .i64 0, .int .i64 0, .int .i64 0, .int .i64 0, .int .i64 0, .int .i64 0, .int .i64 0, .int .i64 0, .int .i64 0, .int .i64 0, .int .i64 0, .int .i64 0, .int .i64 0, .int .i64 0, .int .i64 0, .int .i64 0, .int .i64 0, .int .i64 0, .int .i64 0, .int .i64 0, .int .i64 0, .int .i64 0]).h
theorem r24_below (W : World) (A : Array Value) : Below W.heap.size W ((W.alloc (.cells #[.int .i64 0, .int .i64 0, .int .i64 0, .int .i64 0, .int .i64 0, .int .i64 0, .int .i64 0, .int .i64 0, .int .i64 0, .int .i64 0, .int .i64 0, .int .i64 0, .int .i64 0, .int .i64 0, .int .i64 0, .int .i64 0, .int .i64 0, .int .i64 0, .int .i64 0, .int .i64 0, .int .i64 0, .int .i64 0, .int .i64 0, .int .i64 0] 29)).setRow W.heap.size A) := by
  have b0 : Below W.heap.size W (W.alloc (.cells #[.int .i64 0, .int .i64 0, .int .i64 0, .int .i64 0, .int .i64 0, .int .i64 0, .int .i64 0, .int .i64 0, .int .i64 0, .int .i64 0, .int .i64 0, .int .i64 0, .int .i64 0, .int .i64 0, .int .i64 0, .int .i64 0, .int .i64 0, .int .i64 0, .int .i64 0, .int .i64 0, .int .i64 0, .int .i64 0, .int .i64 0, .int .i64 0] 29)) := ba1
  exact b0.grown (grown_setRow _ W.heap.size A) b0.size (fun i hi => by simp at hi; omega)
theorem r24_cell {W : World} {m : Nat} {A : Array Value} (h : W.heap[m]? = some (.cells A 29 (0, 0))) {k : Nat} {v : Value} (hv : A[k]? = some v) : W.cell? ⟨m, k, none⟩ = some v := by simp [World.cell?, h, hv]
theorem R24.z : R24 #[.int .i64 0, .int .i64 0, .int .i64 0, .int .i64 0, .int .i64 0, .int .i64 0, .int .i64 0, .int .i64 0, .int .i64 0, .int .i64 0, .int .i64 0, .int .i64 0, .int .i64 0, .int .i64 0, .int .i64 0, .int .i64 0, .int .i64 0, .int .i64 0, .int .i64 0, .int .i64 0, .int .i64 0, .int .i64 0, .int .i64 0, .int .i64 0] := ⟨infoWs, rfl, by rw [← zero24_eq]; exact wsOne _⟩
theorem R24.of {l : List Int} (h : l.length = 24) : R24 (l.map vi).toArray := ⟨by rw [infoWs, List.size_toArray, List.length_map, h], by rw [show (l.map vi).toArray.size = 24 by simp [h]]; rfl, wsOne l⟩
theorem isVal_any (n : Int) (d : Bool) (w : World) (h : (0 ≤ n ∧ n < 24 ∧ d = true) ∨ (¬ (0 ≤ n ∧ n < 24) ∧ d = false)) : Calls Tryz.prog 55 #[.int .i64 n] w fun e w' => e = .returned (.bool d) ∧ Below w.heap.size w w' := by
  have h' : (0 ≤ n ∧ n < 24 ∧ d = true) ∨ (¬ 0 ≤ n ∧ d = false) ∨ (0 ≤ n ∧ ¬ n < 24 ∧ d = false) := by
    rcases h with h | ⟨h, e⟩
    · exact .inl h
    · by_cases h0 : 0 ≤ n
      · exact .inr (.inr ⟨h0, fun h1 => h ⟨h0, h1⟩, e⟩)
      · exact .inr (.inl ⟨h0, e⟩)
  clear h
  rcases h' with ⟨h0, h1, rfl⟩ | ⟨h0, rfl⟩ | ⟨h0, h1, rfl⟩
  all_goals
    go_enter Tryz.func55, Tryz.ntmps55
    go_wp2
    go_ret
    exact ⟨rfl, Below.refl _ _⟩
end Go.Proofs.YtpfhjdmgkckjfaaGreatDoor
