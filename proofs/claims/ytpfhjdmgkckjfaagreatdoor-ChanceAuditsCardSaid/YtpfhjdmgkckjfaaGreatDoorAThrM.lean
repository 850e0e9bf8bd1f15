/- Plain mathematics of the plaquettes of a link: the four numbers that the directions give, sorted, each once, are the plaquettes that have the link, for all sizes; no Go.
Conditions: sizes that are allowed, a link of the torus. -/
import Derived.Test.YtpfhjdmgkckjfaaGreatDoorAMathA
import Derived.Lib.SlicesCompact
import Derived.Test.YtpfhjdmgkckjfaaGreatDoorATorA
import Derived.Test.YtpfhjdmgkckjfaaGreatDoorARows5
import Derived.Test.YtpfhjdmgkckjfaaGreatDoorAFieldC
import Derived.Test.YtpfhjdmgkckjfaaGreatDoorADist
import Derived.Test.YtpfhjdmgkckjfaaGreatDoorAProd
import Derived.Test.YtpfhjdmgkckjfaaGreatDoorAMid
set_option autoImplicit false
namespace Cm
set_option linter.unusedVariables false
set_option linter.unusedSimpArgs false
open Tm
/-- the two plaquettes that one other direction gives -/
def two (a b c l o : Int) : List Int := [3 * (l / 3) + (l % 3 + o - 1), 3 * nx a b c (l / 3) (-o - 1) + (l % 3 + o - 1)]
def four (a b c l : Int) : List Int := if l % 3 = 0 then two a b c l 1 ++ two a b c l 2 else if l % 3 = 1 then two a b c l 0 ++ two a b c l 2 else two a b c l 0 ++ two a b c l 1
/-- the links of a plaquette -/
def lks (a b c p : Int) : List Int :=
  let s := p / 3
  let A : Int := if p % 3 = 2 then 1 else 0
  let B : Int := if p % 3 = 0 then 1 else 2
  [3 * s + A, 3 * nx a b c s (A + 1) + B, 3 * nx a b c s (B + 1) + A, 3 * s + B]
def has (a b c l p : Int) : Bool := (lks a b c p).contains l
/-- the plaquettes of a link -/
def thr (a b c l : Int) : List Int := ((List.range (3 * (a * b * c)).toNat).map Int.ofNat).filter (has a b c l)
theorem thr_all : ∀ a : Fin 4, ∀ b : Fin 4, ∀ c : Fin 4, (a.val+1) * (b.val+1) * (c.val+1) ≤ 16 → ∀ l : Fin (3 * ((a.val+1) * (b.val+1) * (c.val+1))), Go.Lib.compact (isort (four (a.val+1 : Nat) (b.val+1 : Nat) (c.val+1 : Nat) (l.val : Nat))) = thr (a.val+1 : Nat) (b.val+1 : Nat) (c.val+1 : Nat) (l.val : Nat) := by decide +kernel
theorem thr_eq {a b c l : Int} (h : Sz a b c) (h0 : 0 ≤ l) (h1 : l < 3 * (a * b * c)) : Go.Lib.compact (isort (four a b c l)) = thr a b c l := by
  obtain ⟨a1, a4, b1, b4, c1, c4, hp⟩ := h
  obtain ⟨x, rfl⟩ := Int.eq_ofNat_of_zero_le (show 0 ≤ a - 1 by omega) |>.imp fun x hx => (by omega : a = ((x + 1 : Nat) : Int))
  obtain ⟨y, rfl⟩ := Int.eq_ofNat_of_zero_le (show 0 ≤ b - 1 by omega) |>.imp fun x hx => (by omega : b = ((x + 1 : Nat) : Int))
  obtain ⟨z, rfl⟩ := Int.eq_ofNat_of_zero_le (show 0 ≤ c - 1 by omega) |>.imp fun x hx => (by omega : c = ((x + 1 : Nat) : Int))
  obtain ⟨k, rfl⟩ := Int.eq_ofNat_of_zero_le h0
  have e : (3 : Int) * (((x + 1 : Nat) : Int) * ((y + 1 : Nat) : Int) * ((z + 1 : Nat) : Int)) = ((3 * ((x + 1) * (y + 1) * (z + 1)) : Nat) : Int) := by simp
  rw [e] at h1
  have e2 : (((x + 1 : Nat) : Int) * ((y + 1 : Nat) : Int) * ((z + 1 : Nat) : Int)) = (((x + 1) * (y + 1) * (z + 1) : Nat) : Int) := by simp
  rw [e2] at hp
  exact thr_all ⟨x, by omega⟩ ⟨y, by omega⟩ ⟨z, by omega⟩ (by exact_mod_cast hp) ⟨k, by exact_mod_cast h1⟩
end Cm

namespace Go.Proofs.YtpfhjdmgkckjfaaGreatDoor
set_option linter.unusedVariables false
set_option linter.unusedSimpArgs false
set_option maxRecDepth 1000000
open Go.ChangeShapes Go.WideShapes Go.ChangeAt Go.RowKit
open Tm

theorem info3 : ∃ i, Tryz.prog.info? 3 = some i := Option.isSome_iff_exists.1 (by kernel_rfl)
theorem eqA3 (a b c : Int) (W : World) : Sem.run Tryz.prog (Op.equalIn 10000 22 (.agg #[.int .i64 a, .int .i64 b, .int .i64 c]) (.agg #[.int .i64 a, .int .i64 b, .int .i64 c])) W = .ok true W := by
  obtain ⟨i, hi⟩ := info3
  have h := run_equalIn_array W 9999 #[.int .i64 a, .int .i64 b, .int .i64 c] #[.int .i64 a, .int .i64 b, .int .i64 c] Tryz.underlying22 hi
  rw [show (10000 : Nat) = 9999 + 1 from rfl, h, cells3, show List.range 3 = [0, 1, 2] from rfl]
  simp [Op.eqItems, go_sem]

section
open Go.ChangeShapes Go.WideShapes Go.ChangeAt Go.RowKit Go.Joins Go.Deep
variable {H : Type} {enc : TypeId × Value → H} {w : World} {base : Nat} {spare : Nat → Bool} {held : Bool}
end
end Go.Proofs.YtpfhjdmgkckjfaaGreatDoor

namespace Go.Proofs.YtpfhjdmgkckjfaaGreatDoor
set_option linter.unusedVariables false
set_option linter.unusedSimpArgs false
set_option maxRecDepth 1000000
open Go.RowKit

def LiesI (w : World) (b off : Nat) (l : List Int) : Prop := ∀ (i : Nat) (x : Int), l[i]? = some x → w.cell? ⟨b, off + i, none⟩ = some (.int .i64 x)
theorem LiesI.later {w w1 : World} {b off : Nat} {l : List Int} (h : LiesI w b off l) (hb : Below w.heap.size w w1) : LiesI w1 b off l := fun i x hx => by
  have f := h i x hx
  rw [hb.cell (World.block_lt_of_cell? w _ f)]
  exact f
def LiesOI (w : World) (ao : Option Addr) (l : List Int) : Prop := l = [] ∨ ∃ b off, ao = some ⟨b, off, none⟩ ∧ LiesI w b off l
theorem LiesOI.later {w w1 : World} {ao : Option Addr} {l : List Int} (h : LiesOI w ao l) (hb : Below w.heap.size w w1) : LiesOI w1 ao l := by
  rcases h with h | ⟨b, off, h, hl⟩
  · exact .inl h
  · exact .inr ⟨b, off, h, hl.later hb⟩

theorem infoI : (Tryz.prog.info? 3).map (fun i => (i.zero, i.size, i.bytes)) = some (some (.int .i64 0), 1, 8) := by kernel_rfl
def vi (x : Int) : Value := .int .i64 x
theorem owned_liesI {w : World} {base : Nat} {T : TypeId} {g cap : Nat} {l : List Int} (h : w.ownsRow base T 1 (.slice (some ⟨g, 0, none⟩) l.length cap) l.length (l.map vi)) : LiesI w g 0 l := fun i x hx => by
  have hi : i < l.length := (List.getElem?_eq_some_iff.1 hx).1
  rw [Nat.zero_add, h.cellAt i (by omega), List.getElem?_map, hx]
  rfl
theorem owned_liesOI {w : World} {base : Nat} {T : TypeId} {v : Value} {l : List Int} (h : w.ownsRow base T 1 v l.length (l.map vi)) : ∃ ao cap, v = .slice ao l.length cap ∧ LiesOI w ao l := by
  rcases h.2 with ⟨rfl, h0⟩ | ⟨g, cap, cur, rfl, hg, _⟩
  · exact ⟨none, 0, by rw [h0], .inl (List.length_eq_zero_iff.1 h0)⟩
  · exact ⟨_, cap, rfl, .inr ⟨g, 0, rfl, owned_liesI h⟩⟩
/-- a list of numbers in a block that is no older than B -/
def LiesNI (w : World) (B : Nat) (ao : Option Addr) (l : List Int) : Prop := l = [] ∨ ∃ b off, ao = some ⟨b, off, none⟩ ∧ B ≤ b ∧ (∀ j, w.frozen? ⟨b, j, none⟩ = false) ∧ LiesI w b off l
theorem LiesNI.o {w : World} {B : Nat} {ao : Option Addr} {l : List Int} (h : LiesNI w B ao l) : LiesOI w ao l := by
  rcases h with h | ⟨b, off, h, -, -, hl⟩
  · exact .inl h
  · exact .inr ⟨b, off, h, hl⟩
theorem lies_block {w : World} {b off : Nat} {l : List Int} (h : LiesI w b off l) (h0 : l ≠ []) : b < w.heap.size :=
  World.block_lt_of_cell? w _ (h 0 _ (List.getElem?_eq_getElem (List.length_pos_iff.2 h0)))
theorem LiesNI.later {w w1 : World} {B : Nat} {ao : Option Addr} {l : List Int} (h : LiesNI w B ao l) (hb : Below w.heap.size w w1) : LiesNI w1 B ao l := by
  by_cases h0 : l = []
  · exact .inl h0
  · rcases h with h | ⟨b, off, h, hB, hf, hl⟩
    · exact .inl h
    · exact .inr ⟨b, off, h, hB, fun j => (hb.frozen (lies_block hl h0)).trans (hf j), hl.later hb⟩
theorem LiesNI.le {w : World} {B C : Nat} {ao : Option Addr} {l : List Int} (h : LiesNI w B ao l) (hC : C ≤ B) : LiesNI w C ao l := by
  rcases h with h | ⟨b, off, h, hB, hl⟩
  · exact .inl h
  · exact .inr ⟨b, off, h, Nat.le_trans hC hB, hl⟩
theorem owned_ne {w : World} {base : Nat} {T : TypeId} {size n b : Nat} {v : Value} {xs : List Value} (h : w.ownsRow base T size v n xs) (hb : b < base) : some b ≠ v.ownBlock := by
  rcases h.2 with ⟨rfl, _⟩ | ⟨g, cap, cur, rfl, hg, _⟩
  · simp [Value.ownBlock]
  · simp [Value.ownBlock]; omega
theorem owned_from {w : World} {base : Nat} {T : TypeId} {size n : Nat} {v : Value} {xs : List Value} (h : w.ownsRow base T size v n xs) : ∀ k, v.ownBlock = some k → base ≤ k := by
  rcases h.2 with ⟨rfl, _⟩ | ⟨g, cap, cur, rfl, hg, _⟩
  · simp [Value.ownBlock]
  · intro k hk; simp [Value.ownBlock] at hk; omega
theorem one_cell {w : World} {b : Nat} {x : Value} (h : w.cell? ⟨b, 0, none⟩ = some x) : ∀ j u, [x][j]? = some u → w.cell? (Addr.add ⟨b, 0, none⟩ j) = some u := fun j u hj => by
  match j, hj with
  | 0, hj => simp at hj; subst hj; exact h
  | n + 1, hj => simp at hj
theorem one_one (x : Int) : ∀ u ∈ [vi x], u.oneCell' = true := fun u hu => by
  simp at hu
  subst hu
  rfl

section
open Go.ChangeShapes Go.WideShapes Go.ChangeAt Go.RowKit Go.Joins Go.Deep
variable {H : Type} {enc : TypeId × Value → H} {w : World} {base : Nat} {spare : Nat → Bool} {held : Bool}
end

end Go.Proofs.YtpfhjdmgkckjfaaGreatDoor

namespace Go.Proofs.YtpfhjdmgkckjfaaGreatDoor
set_option linter.unusedVariables false
set_option linter.unusedSimpArgs false
set_option maxRecDepth 1000000
open Go.RowKit
open Um Tm

end Go.Proofs.YtpfhjdmgkckjfaaGreatDoor

namespace Go.Proofs.YtpfhjdmgkckjfaaGreatDoor
set_option linter.unusedVariables false
set_option linter.unusedSimpArgs false
open Go.RowKit
open Um

end Go.Proofs.YtpfhjdmgkckjfaaGreatDoor
