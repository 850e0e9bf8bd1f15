/- Sums of 24 weights, and the value that a draw leads to, on both sides; what is a value.
Conditions: those written at each theorem. -/
import Derived.Test.YtpfhjdmgkckjfaaGreatDoorPSane5
import Derived.Test.YtpfhjdmgkckjfaaGreatDoorPChoM
import Derived.Test.YtpfhjdmgkckjfaaGreatDoorPWlkA
import Derived.Test.YtpfhjdmgkckjfaaGreatDoorPRwsC
import Derived.Test.YtpfhjdmgkckjfaaGreatDoorPChkC
import Derived.Test.YtpfhjdmgkckjfaaGreatDoorPOpen4
namespace Go.Proofs.YtpfhjdmgkckjfaaGreatDoor
set_option linter.unusedVariables false
set_option linter.unusedSimpArgs false
set_option maxRecDepth 1000000
open Go.RowKit
open Um Tm Cm

/-- weights that can be summed -/
structure WL (l : List Int) : Prop where
  n : l.length = 24
  lo : ∀ x ∈ l, 1 ≤ x
  hi : ∀ x ∈ l, x ≤ 100000000
theorem WL.ps {l : List Int} (h : WL l) (j : Nat) (hj : j ≤ 24) : 0 ≤ psum l j ∧ psum l j ≤ 2400000000 := by
  have := psum_ge h.lo j (by rw [h.n]; omega)
  have := psum_le h.hi j (by rw [h.n]; omega)
  omega
theorem WL.sz {l : List Int} (h : WL l) : (Tryz.prog.info? 29).map (·.size) = some (l.map vi).toArray.size := by rw [infoWs, List.size_toArray, List.length_map, h.n]
/-- an array that a result can hold -/
structure R24 (A : Array Value) : Prop where
  sz : (Tryz.prog.info? 29).map (·.size) = some A.size
  ol : ((#[.int .i64 0, .int .i64 0, .int .i64 0, .int .i64 0, .int .i64 0, .int .i64 0, .int .i64 0, .int .i64 0, .int .i64 0, .int .i64 0, .int .i64 0, .int .i64 0, .int .i64 0, .int .i64 0, .int .i64 0, .int .i64 0, .int .i64 0, .int .i64 0, .int .i64 0, .int .i64 0, .int .i64 0, .int .i64 0, .int .i64 0, .int .i64 0] : Array Value).toList.toArray).size = A.size
  one : A.all (·.oneCell') = true
theorem r24_new (W : World) (A : Array Value) : ((W.alloc (.cells #[.int .i64 0, .int .i64 0, .int .i64 0, .int .i64 0, .int .i64 0, .int .i64 0, .int .i64 0, .int .i64 0, .int .i64 0, .int .i64 0, .int .i64 0, .int .i64 0, .int .i64 0, .int .i64 0, .int .i64 0, .int .i64 0, .int .i64 0, .int .i64 0, .int .i64 0, .int .i64 0, .int .i64 0, .int .i64 0, .int .i64 0, .int .i64 0] 29)).setRow W.heap.size A).heap[W.heap.size]? = some (.cells A 29 (0, 0)) := setRow_heap _ _ _ A 29 (0, 0) (ABx.news (w := W) (T := 29) #[.int .i64 0, .int .i64 0, .int .i64 0, .int .i64 0, .int .i64 0, .int .i64 0, .int .i64 0, .int .i64 0, .int .i64 0, .int .i64 0, .int .i64 0, .int .i64 0, .int .i64 0, .int .i64 0, .int .i64 0, .int .i64 0, .int .i64 0, .int .i64 0, .int .i64 0, .int .i64 0, .int .i64 0, .int .i64 0, .int .i64 0, .int .i64 0]).h
theorem r24_below (W : World) (A : Array Value) : Below W.heap.size W ((W.alloc (.cells #[.int .i64 0, .int .i64 0, .int .i64 0, .int .i64 0, .int .i64 0, .int .i64 0, .int .i64 0, .int .i64 0, .int .i64 0, .int .i64 0, .int .i64 0, .int .i64 0, .int .i64 0, .int .i64 0, .int .i64 0, .int .i64 0, .int .i64 0, .int .i64 0, .int .i64 0, .int .i64 0, .int .i64 0, .int .i64 0, .int .i64 0, .int .i64 0] 29)).setRow W.heap.size A) := by
  have b0 : Below W.heap.size W (W.alloc (.cells #[.int .i64 0, .int .i64 0, .int .i64 0, .int .i64 0, .int .i64 0, .int .i64 0, .int .i64 0, .int .i64 0, .int .i64 0, .int .i64 0, .int .i64 0, .int .i64 0, .int .i64 0, .int .i64 0, .int .i64 0, .int .i64 0, .int .i64 0, .int .i64 0, .int .i64 0, .int .i64 0, .int .i64 0, .int .i64 0, .int .i64 0, .int .i64 0] 29)) := ba1
  exact b0.grown (grown_setRow _ W.heap.size A) b0.size (fun i hi => by simp at hi; omega)
theorem r24_cell {W : World} {m : Nat} {A : Array Value} (h : W.heap[m]? = some (.cells A 29 (0, 0))) {k : Nat} {v : Value} (hv : A[k]? = some v) : W.cell? ⟨m, k, none⟩ = some v := by simp [World.cell?, h, hv]
theorem R24.z : R24 #[.int .i64 0, .int .i64 0, .int .i64 0, .int .i64 0, .int .i64 0, .int .i64 0, .int .i64 0, .int .i64 0, .int .i64 0, .int .i64 0, .int .i64 0, .int .i64 0, .int .i64 0, .int .i64 0, .int .i64 0, .int .i64 0, .int .i64 0, .int .i64 0, .int .i64 0, .int .i64 0, .int .i64 0, .int .i64 0, .int .i64 0, .int .i64 0] := ⟨infoWs, rfl, by rw [← zero24_eq]; exact wsOne _⟩
theorem R24.of {l : List Int} (h : l.length = 24) : R24 (l.map vi).toArray := ⟨by rw [infoWs, List.size_toArray, List.length_map, h], by rw [show (l.map vi).toArray.size = 24 by simp [h]]; rfl, wsOne l⟩
theorem isVal_any (n : Int) (d : Bool) (w : World) (h : (0 ≤ n ∧ n < 24 ∧ d = true) ∨ (¬ (0 ≤ n ∧ n < 24) ∧ d = false)) : Calls Tryz.prog 55 #[.int .i64 n] w fun e w' => e = .returned (.bool d) ∧ Below w.heap.size w w' := by
  have h' : (0 ≤ n ∧ n < 24 ∧ d = true) ∨ (¬ 0 ≤ n ∧ d = false) ∨ (0 ≤ n ∧ ¬ n < 24 ∧ d = false) := by
    rcases h with h | ⟨h, e⟩
    · exact .inl h
    · by_cases h0 : 0 ≤ n
      · exact .inr (.inr ⟨h0, fun h1 => h ⟨h0, h1⟩, e⟩)
      · exact .inr (.inl ⟨h0, e⟩)
  clear h
  rcases h' with ⟨h0, h1, rfl⟩ | ⟨h0, rfl⟩ | ⟨h0, h1, rfl⟩
  all_goals
    go_enter Tryz.func55, Tryz.ntmps55
    go_wp2
    go_ret
    exact ⟨rfl, Below.refl _ _⟩
end Go.Proofs.YtpfhjdmgkckjfaaGreatDoor

namespace Go.Proofs.YtpfhjdmgkckjfaaGreatDoor
set_option linter.unusedVariables false
set_option linter.unusedSimpArgs false
set_option maxRecDepth 1000000
open Go.RowKit
open Um Tm Cm

end Go.Proofs.YtpfhjdmgkckjfaaGreatDoor

namespace Go.Proofs.YtpfhjdmgkckjfaaGreatDoor
set_option linter.unusedVariables false
set_option linter.unusedSimpArgs false
set_option maxRecDepth 1000000
open Go.RowKit
open Um Tm Cm

/-- a flow and its error -/
def fwR (A : Array Value) (x y r v q : Int) : Prop := (r ≠ 0 ∧ v = 0 ∧ q = r) ∨ (r = 0 ∧ ¬ ((0 ≤ x ∧ x < 24) ∧ 0 ≤ y ∧ y < 24) ∧ v = 0 ∧ q = 1) ∨ (r = 0 ∧ ((0 ≤ x ∧ x < 24) ∧ 0 ≤ y ∧ y < 24) ∧ A[y.toNat]? = some (.int .i64 v) ∧ q = 0)
end Go.Proofs.YtpfhjdmgkckjfaaGreatDoor

namespace Go.Proofs.YtpfhjdmgkckjfaaGreatDoor
set_option linter.unusedVariables false
set_option linter.unusedSimpArgs false
set_option maxRecDepth 1000000
open Go.RowKit
open Um Tm Cm

theorem long5_any (a b c : Int) (ao : Option Addr) (cap : Nat) (L : List Q) (d : Bool) (w : World) (h : (200 < L.length ∧ d = true) ∨ (L.length ≤ 200 ∧ d = false)) : Calls Tryz.prog 11 #[.agg #[.int .i64 a, .int .i64 b, .int .i64 c, .slice ao L.length cap]] w fun e w' => e = .returned (.bool d) ∧ Below w.heap.size w w' := by
  rcases h with ⟨h, rfl⟩ | ⟨h, rfl⟩
  · have h2 : (L.length : Int) > 200 := by omega
    go_enter Tryz.func11, Tryz.ntmps11
    go_wp2
    go_ret
    exact ⟨rfl, ba1⟩
  · have h2 : ¬ (L.length : Int) > 200 := by omega
    go_enter Tryz.func11, Tryz.ntmps11
    go_wp2
    go_ret
    exact ⟨rfl, ba1⟩
theorem lies_of5 {w : World} {ao : Option Addr} {L : List Q} (h : LiesO w ao L) (hp : 0 < L.length) : ∃ b f, ao = some ⟨b, f, none⟩ ∧ Lies w b f L := by
  rcases h with h | h
  · rw [h] at hp; simp at hp
  · exact h
end Go.Proofs.YtpfhjdmgkckjfaaGreatDoor

namespace Go.Proofs.YtpfhjdmgkckjfaaGreatDoor
set_option linter.unusedVariables false
set_option linter.unusedSimpArgs false
set_option maxRecDepth 1000000
section
open Go.ChangeShapes Go.WideShapes Go.ChangeAt Go.RowKit Go.Joins Go.Deep
variable {H : Type} {enc : TypeId × Value → H} {w : World} {base : Nat} {spare : Nat → Bool} {held : Bool}
theorem cellsW5 : Tryz.prog.cellsOf 26 = 5 := by kernel_rfl
theorem open_w5 {r : Reach} {b0 : Nat} {v : Value} {d : DataW H} {p : List MemPlace} (hv : Value.okWide Tryz.prog w r b0 26 v) (h : DataW.Trod enc Tryz.prog w base spare held 26 v d p) : ∃ (x y z t s : Int), v = .agg #[.int .i64 x, .int .i64 y, .int .i64 z, .int .i64 t, .int .i64 s] := by
  have hagg : ∃ cs, v = .agg cs ∧ cs.size = Tryz.prog.cellsOf 26 := by
    simp only [Value.okWide, Tryz.underlying26] at hv
    obtain ⟨cs, h1, h2, _⟩ := hv
    exact ⟨cs, h1, h2⟩
  obtain ⟨cs, rfl, hsz⟩ := hagg
  obtain ⟨l⟩ := cs
  match l, hsz.trans cellsW5 with
  | [c0, c1, c2, c3, c4], _ =>
    obtain ⟨fuel, hf⟩ := h
    obtain ⟨xs, n, _, _, _, hlen, hg⟩ := DataW.trod_array Tryz.underlying26 hf
    match xs, hlen with
    | [y0, y1, y2, y3, y4], _ =>
      obtain ⟨a, e0, _, _⟩ := DataW.trod_int Tryz.underlying3 (show DataW.trod enc Tryz.prog w base spare held n 3 [c0] = some y0 by simpa [Value.cells, cells3] using hg 0 (by omega))
      obtain ⟨b, e1, _, _⟩ := DataW.trod_int Tryz.underlying3 (show DataW.trod enc Tryz.prog w base spare held n 3 [c1] = some y1 by simpa [Value.cells, cells3] using hg 1 (by omega))
      obtain ⟨c, e2, _, _⟩ := DataW.trod_int Tryz.underlying3 (show DataW.trod enc Tryz.prog w base spare held n 3 [c2] = some y2 by simpa [Value.cells, cells3] using hg 2 (by omega))
      obtain ⟨d, e3, _, _⟩ := DataW.trod_int Tryz.underlying3 (show DataW.trod enc Tryz.prog w base spare held n 3 [c3] = some y3 by simpa [Value.cells, cells3] using hg 3 (by omega))
      obtain ⟨f, e4, _, _⟩ := DataW.trod_int Tryz.underlying3 (show DataW.trod enc Tryz.prog w base spare held n 3 [c4] = some y4 by simpa [Value.cells, cells3] using hg 4 (by omega))
      simp at e0 e1 e2 e3 e4
      subst e0 e1 e2 e3 e4
      exact ⟨a, b, c, d, f, rfl⟩
end
end Go.Proofs.YtpfhjdmgkckjfaaGreatDoor
