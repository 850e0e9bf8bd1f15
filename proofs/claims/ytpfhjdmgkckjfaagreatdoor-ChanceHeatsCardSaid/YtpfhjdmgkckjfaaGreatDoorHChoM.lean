/- What the statements of the second layer ask of the program first, and how places are compared and arguments read.
Conditions: none. -/
import Derived.Test.YtpfhjdmgkckjfaaGreatDoorHTorA
import Derived.Test.YtpfhjdmgkckjfaaGreatDoorHRows5
import Derived.Test.YtpfhjdmgkckjfaaGreatDoorHFieldC
import Derived.Test.YtpfhjdmgkckjfaaGreatDoorHEqU
import Derived.Test.YtpfhjdmgkckjfaaGreatDoorHProd
import Derived.Test.YtpfhjdmgkckjfaaGreatDoorHMid
import Derived.Test.YtpfhjdmgkckjfaaGreatDoorHCrM
namespace Go.Proofs.YtpfhjdmgkckjfaaGreatDoor
set_option linter.unusedVariables false
set_option linter.unusedSimpArgs false
set_option maxRecDepth 1000000
open Go.ChangeShapes Go.WideShapes Go.ChangeAt Go.RowKit
open Tm

theorem info3 : ∃ i, Tryz.prog.info? 3 = some i := Option.isSome_iff_exists.1 (by kernel_rfl)
theorem eqA3 (a b c : Int) (W : World) : Sem.run Tryz.prog (Op.equalIn 10000 22 (.agg #[.int .i64 a, .int .i64 b, .int .i64 c]) (.agg #[.int .i64 a, .int .i64 b, .int .i64 c])) W = .ok true W := by
  obtain ⟨i, hi⟩ := info3
  have h := run_equalIn_array W 9999 #[.int .i64 a, .int .i64 b, .int .i64 c] #[.int .i64 a, .int .i64 b, .int .i64 c] Tryz.underlying22 hi
  rw [show (10000 : Nat) = 9999 + 1 from rfl, h, cells3, show List.range 3 = [0, 1, 2] from rfl]
  simp [Op.eqItems, go_sem]

section
open Go.ChangeShapes Go.WideShapes Go.ChangeAt Go.RowKit Go.Joins Go.Deep
variable {H : Type} {enc : TypeId × Value → H} {w : World} {base : Nat} {spare : Nat → Bool} {held : Bool}
end
end Go.Proofs.YtpfhjdmgkckjfaaGreatDoor

namespace Go.Proofs.YtpfhjdmgkckjfaaGreatDoor
set_option linter.unusedVariables false
set_option linter.unusedSimpArgs false
set_option maxRecDepth 1000000
open Go.RowKit

def LiesI (w : World) (b off : Nat) (l : List Int) : Prop := ∀ (i : Nat) (x : Int), l[i]? = some x → w.cell? ⟨b, off + i, none⟩ = some (.int .i64 x)
theorem LiesI.later {w w1 : World} {b off : Nat} {l : List Int} (h : LiesI w b off l) (hb : Below w.heap.size w w1) : LiesI w1 b off l := fun i x hx => by
  have f := h i x hx
  rw [hb.cell (World.block_lt_of_cell? w _ f)]
  exact f
def LiesOI (w : World) (ao : Option Addr) (l : List Int) : Prop := l = [] ∨ ∃ b off, ao = some ⟨b, off, none⟩ ∧ LiesI w b off l
theorem LiesOI.later {w w1 : World} {ao : Option Addr} {l : List Int} (h : LiesOI w ao l) (hb : Below w.heap.size w w1) : LiesOI w1 ao l := by
  rcases h with h | ⟨b, off, h, hl⟩
  · exact .inl h
  · exact .inr ⟨b, off, h, hl.later hb⟩

theorem infoI : (Tryz.prog.info? 3).map (fun i => (i.zero, i.size, i.bytes)) = some (some (.int .i64 0), 1, 8) := by kernel_rfl
def vi (x : Int) : Value := .int .i64 x
theorem owned_liesI {w : World} {base : Nat} {T : TypeId} {g cap : Nat} {l : List Int} (h : w.ownsRow base T 1 (.slice (some ⟨g, 0, none⟩) l.length cap) l.length (l.map vi)) : LiesI w g 0 l := fun i x hx => by
  have hi : i < l.length := (List.getElem?_eq_some_iff.1 hx).1
  rw [Nat.zero_add, h.cellAt i (by omega), List.getElem?_map, hx]
  rfl
theorem owned_liesOI {w : World} {base : Nat} {T : TypeId} {v : Value} {l : List Int} (h : w.ownsRow base T 1 v l.length (l.map vi)) : ∃ ao cap, v = .slice ao l.length cap ∧ LiesOI w ao l := by
  rcases h.2 with ⟨rfl, h0⟩ | ⟨g, cap, cur, rfl, hg, _⟩
  · exact ⟨none, 0, by rw [h0], .inl (List.length_eq_zero_iff.1 h0)⟩
  · exact ⟨_, cap, rfl, .inr ⟨g, 0, rfl, owned_liesI h⟩⟩
/-- a list of numbers in a block that is no older than B -/
def LiesNI (w : World) (B : Nat) (ao : Option Addr) (l : List Int) : Prop := l = [] ∨ ∃ b off, ao = some ⟨b, off, none⟩ ∧ B ≤ b ∧ (∀ j, w.frozen? ⟨b, j, none⟩ = false) ∧ LiesI w b off l
theorem LiesNI.o {w : World} {B : Nat} {ao : Option Addr} {l : List Int} (h : LiesNI w B ao l) : LiesOI w ao l := by
  rcases h with h | ⟨b, off, h, -, -, hl⟩
  · exact .inl h
  · exact .inr ⟨b, off, h, hl⟩
theorem lies_block {w : World} {b off : Nat} {l : List Int} (h : LiesI w b off l) (h0 : l ≠ []) : b < w.heap.size :=
  World.block_lt_of_cell? w _ (h 0 _ (List.getElem?_eq_getElem (List.length_pos_iff.2 h0)))
theorem LiesNI.later {w w1 : World} {B : Nat} {ao : Option Addr} {l : List Int} (h : LiesNI w B ao l) (hb : Below w.heap.size w w1) : LiesNI w1 B ao l := by
  by_cases h0 : l = []
  · exact .inl h0
  · rcases h with h | ⟨b, off, h, hB, hf, hl⟩
    · exact .inl h
    · exact .inr ⟨b, off, h, hB, fun j => (hb.frozen (lies_block hl h0)).trans (hf j), hl.later hb⟩
theorem LiesNI.le {w : World} {B C : Nat} {ao : Option Addr} {l : List Int} (h : LiesNI w B ao l) (hC : C ≤ B) : LiesNI w C ao l := by
  rcases h with h | ⟨b, off, h, hB, hl⟩
  · exact .inl h
  · exact .inr ⟨b, off, h, Nat.le_trans hC hB, hl⟩
theorem owned_ne {w : World} {base : Nat} {T : TypeId} {size n b : Nat} {v : Value} {xs : List Value} (h : w.ownsRow base T size v n xs) (hb : b < base) : some b ≠ v.ownBlock := by
  rcases h.2 with ⟨rfl, _⟩ | ⟨g, cap, cur, rfl, hg, _⟩
  · simp [Value.ownBlock]
  · simp [Value.ownBlock]; omega
theorem owned_from {w : World} {base : Nat} {T : TypeId} {size n : Nat} {v : Value} {xs : List Value} (h : w.ownsRow base T size v n xs) : ∀ k, v.ownBlock = some k → base ≤ k := by
  rcases h.2 with ⟨rfl, _⟩ | ⟨g, cap, cur, rfl, hg, _⟩
  · simp [Value.ownBlock]
  · intro k hk; simp [Value.ownBlock] at hk; omega
theorem one_cell {w : World} {b : Nat} {x : Value} (h : w.cell? ⟨b, 0, none⟩ = some x) : ∀ j u, [x][j]? = some u → w.cell? (Addr.add ⟨b, 0, none⟩ j) = some u := fun j u hj => by
  match j, hj with
  | 0, hj => simp at hj; subst hj; exact h
  | n + 1, hj => simp at hj
theorem one_one (x : Int) : ∀ u ∈ [vi x], u.oneCell' = true := fun u hu => by
  simp at hu
  subst hu
  rfl

section
open Go.ChangeShapes Go.WideShapes Go.ChangeAt Go.RowKit Go.Joins Go.Deep
variable {H : Type} {enc : TypeId × Value → H} {w : World} {base : Nat} {spare : Nat → Bool} {held : Bool}
end

end Go.Proofs.YtpfhjdmgkckjfaaGreatDoor

namespace Go.Proofs.YtpfhjdmgkckjfaaGreatDoor
set_option linter.unusedVariables false
set_option linter.unusedSimpArgs false
set_option maxRecDepth 1000000
open Go.RowKit
open Um Tm

end Go.Proofs.YtpfhjdmgkckjfaaGreatDoor

namespace Go.Proofs.YtpfhjdmgkckjfaaGreatDoor
set_option linter.unusedVariables false
set_option linter.unusedSimpArgs false
open Go.RowKit
open Um

end Go.Proofs.YtpfhjdmgkckjfaaGreatDoor

set_option autoImplicit false
namespace Cm
set_option linter.unusedVariables false
set_option linter.unusedSimpArgs false
open Tm Um
/-- the sum of the first weights -/
def psum (l : List Int) (k : Nat) : Int := (l.take k).sum
theorem psum_zero (l : List Int) : psum l 0 = 0 := by simp [psum]
theorem psum_succ {l : List Int} {k : Nat} {x : Int} (h : l[k]? = some x) : psum l (k + 1) = psum l k + x := by
  obtain ⟨hk, rfl⟩ := List.getElem?_eq_some_iff.1 h
  unfold psum
  rw [List.take_succ_eq_append_getElem hk, List.sum_append]
  simp
/-- a draw leads to a value -/
def Ch (l : List Int) (d : Int) (k : Nat) : Prop := k < l.length ∧ psum l k ≤ d ∧ d < psum l (k + 1)
theorem Ch_up (l : List Int) (d : Int) (h0 : 0 ≤ d) : ∀ n : Nat, n ≤ l.length → d < psum l n → ∃ k, Ch l d k
  | 0, _, h => by rw [psum_zero] at h; omega
  | n + 1, hn, h => by
    by_cases hd : d < psum l n
    · exact Ch_up l d h0 n (by omega) hd
    · exact ⟨n, by omega, by omega, h⟩
theorem Ch_ex {l : List Int} {d : Int} (h0 : 0 ≤ d) (h1 : d < psum l l.length) : ∃ k, Ch l d k := Ch_up l d h0 l.length (Nat.le_refl _) h1
theorem psum_mono {l : List Int} (hp : ∀ x ∈ l, 1 ≤ x) (i : Nat) : ∀ j, i ≤ j → j ≤ l.length → psum l i ≤ psum l j
  | 0, h, _ => by
    have : i = 0 := by omega
    subst this
    exact Int.le_refl _
  | j + 1, h, hj => by
    by_cases he : i = j + 1
    · subst he
      exact Int.le_refl _
    · have hx : l[j]? = some l[j] := List.getElem?_eq_getElem (by omega)
      rw [psum_succ hx]
      have := psum_mono hp i j (by omega) (by omega)
      have := hp _ (List.mem_of_getElem? hx)
      omega
theorem psum_le {l : List Int} {B : Int} (hp : ∀ x ∈ l, x ≤ B) : ∀ j : Nat, j ≤ l.length → psum l j ≤ j * B
  | 0, _ => by rw [psum_zero]; omega
  | j + 1, hj => by
    have hx : l[j]? = some l[j] := List.getElem?_eq_getElem (by omega)
    rw [psum_succ hx]
    have := psum_le hp j (by omega)
    have := hp _ (List.mem_of_getElem? hx)
    have e : ((j + 1 : Nat) : Int) * B = j * B + B := by rw [Int.natCast_add, Int.add_mul]; simp
    omega
theorem psum_ge {l : List Int} (hp : ∀ x ∈ l, 1 ≤ x) (j : Nat) (hj : j ≤ l.length) : 0 ≤ psum l j := by
  have := psum_mono hp 0 j (by omega) hj
  rw [psum_zero] at this
  exact this
theorem Ch_le {l : List Int} {d : Int} {k : Nat} (hp : ∀ x ∈ l, 1 ≤ x) (h : Ch l d k) {j : Nat} (hj : j < k) : psum l (j + 1) ≤ d := by
  have := psum_mono hp (j + 1) k (by omega) (by have := h.1; omega)
  have := h.2.1
  omega
end Cm
