/- Plain mathematics of the value that a draw leads to; no Go.
Conditions: none. -/
import Derived.Test.YtpfhjdmgkckjfaaGreatDoorPCrM
import Derived.Test.YtpfhjdmgkckjfaaGreatDoorPChkC
import Derived.Test.YtpfhjdmgkckjfaaGreatDoorPWlkA
import Derived.Test.YtpfhjdmgkckjfaaGreatDoorPOpen4
import Derived.Test.YtpfhjdmgkckjfaaGreatDoorPQuatB
import Derived.Test.YtpfhjdmgkckjfaaGreatDoorPShelf
import Derived.Test.YtpfhjdmgkckjfaaGreatDoorPCopR
import Derived.Test.YtpfhjdmgkckjfaaGreatDoorPSmall
import Derived.Test.YtpfhjdmgkckjfaaGreatDoorPSortC
set_option autoImplicit false
namespace Cm
set_option linter.unusedVariables false
set_option linter.unusedSimpArgs false
open Tm Um
/-- the sum of the first weights -/
def psum (l : List Int) (k : Nat) : Int := (l.take k).sum
theorem psum_zero (l : List Int) : psum l 0 = 0 := by simp [psum]
theorem psum_succ {l : List Int} {k : Nat} {x : Int} (h : l[k]? = some x) : psum l (k + 1) = psum l k + x := by
  obtain ⟨hk, rfl⟩ := List.getElem?_eq_some_iff.1 h
  unfold psum
  rw [List.take_succ_eq_append_getElem hk, List.sum_append]
  simp
/-- a draw leads to a value -/
def Ch (l : List Int) (d : Int) (k : Nat) : Prop := k < l.length ∧ psum l k ≤ d ∧ d < psum l (k + 1)
theorem psum_mono {l : List Int} (hp : ∀ x ∈ l, 1 ≤ x) (i : Nat) : ∀ j, i ≤ j → j ≤ l.length → psum l i ≤ psum l j
  | 0, h, _ => by
    have : i = 0 := by omega
    subst this
    exact Int.le_refl _
  | j + 1, h, hj => by
    by_cases he : i = j + 1
    · subst he
      exact Int.le_refl _
    · have hx : l[j]? = some l[j] := List.getElem?_eq_getElem (by omega)
      rw [psum_succ hx]
      have := psum_mono hp i j (by omega) (by omega)
      have := hp _ (List.mem_of_getElem? hx)
      omega
theorem psum_le {l : List Int} {B : Int} (hp : ∀ x ∈ l, x ≤ B) : ∀ j : Nat, j ≤ l.length → psum l j ≤ j * B
  | 0, _ => by rw [psum_zero]; omega
  | j + 1, hj => by
    have hx : l[j]? = some l[j] := List.getElem?_eq_getElem (by omega)
    rw [psum_succ hx]
    have := psum_le hp j (by omega)
    have := hp _ (List.mem_of_getElem? hx)
    have e : ((j + 1 : Nat) : Int) * B = j * B + B := by rw [Int.natCast_add, Int.add_mul]; simp
    omega
theorem psum_ge {l : List Int} (hp : ∀ x ∈ l, 1 ≤ x) (j : Nat) (hj : j ≤ l.length) : 0 ≤ psum l j := by
  have := psum_mono hp 0 j (by omega) hj
  rw [psum_zero] at this
  exact this
theorem small_inj : ∀ k : Nat, k < 24 → ∀ m : Nat, m < 24 → small k = small m → k = m := by decide +kernel
end Cm

namespace Go.Proofs.YtpfhjdmgkckjfaaGreatDoor
set_option linter.unusedVariables false
set_option linter.unusedSimpArgs false
set_option maxRecDepth 1000000
open Go.RowKit
open Um Tm Cm

/-- the weights of the values, as the program reckons them -/
def wsA (a b c : Int) (L : List Q) (ws : List Int) (l : Int) : Array Value := ((wsK a b c L ws l (thr a b c l) 24).map vi).toArray
theorem wsA_sz (a b c : Int) (L : List Q) (ws : List Int) (l : Int) : (wsA a b c L ws l).size = 24 := by simp [wsA, wsK_len]
theorem wsA_one (a b c : Int) (L : List Q) (ws : List Int) (l : Int) : (wsA a b c L ws l).all (·.oneCell') = true := wsOne _
end Go.Proofs.YtpfhjdmgkckjfaaGreatDoor

namespace Go.Proofs.YtpfhjdmgkckjfaaGreatDoor
set_option linter.unusedVariables false
set_option linter.unusedSimpArgs false
set_option maxRecDepth 1000000
open Go.RowKit
open Um Tm

set_option maxHeartbeats 400000 in
theorem refBar_any (x : Q) (w : World) (h : V x) (h5 : x.n ≤ 5) : Calls Tryz.prog 71 #[.agg #[.int .i64 x.a, .int .i64 x.b, .int .i64 x.c, .int .i64 x.d, .int .i64 x.n]] w fun e w' => e = .returned (.agg #[.int .i64 (bar x).a, .int .i64 (bar x).b, .int .i64 (bar x).c, .int .i64 (bar x).d, .int .i64 (bar x).n]) ∧ Below w.heap.size w w' := by
  have i := V.in h
  have e1 : IntKind.i64.wrap (-x.b) = -x.b := IntWalk.i64_in _ (by have := i.b; omega)
  have e2 : IntKind.i64.wrap (-x.c) = -x.c := IntWalk.i64_in _ (by have := i.c; omega)
  have e3 : IntKind.i64.wrap (-x.d) = -x.d := IntWalk.i64_in _ (by have := i.d; omega)
  obtain ⟨ib1, ib2⟩ := i.b
  obtain ⟨ic1, ic2⟩ := i.c
  obtain ⟨id1, id2⟩ := i.d
  clear h i
  go_enter Tryz.func71, Tryz.ntmps71
  go_wp2
  refine bodyPost_ret (v := .agg #[.int .i64 (bar x).a, .int .i64 (bar x).b, .int .i64 (bar x).c, .int .i64 (bar x).d, .int .i64 (bar x).n]) ?_ rfl ⟨rfl, ?_⟩
  · simp [results, Tryz.results71, go_sem, bar, e1, e2, e3]
  · repeat (first | (with_reducible exact Below.refl _ _) | (with_reducible refine Below.setCell ?_ ?_ _) | (with_reducible refine Below.drew ?_) | (with_reducible refine Below.alloc ?_ ?_ _) | omega | (simp <;> omega))
end Go.Proofs.YtpfhjdmgkckjfaaGreatDoor

namespace Go.Proofs.YtpfhjdmgkckjfaaGreatDoor
set_option linter.unusedVariables false
set_option linter.unusedSimpArgs false
set_option maxRecDepth 1000000
open Go.RowKit
open Um Tm Cm

/-- the seed behind k draws -/
def advN (s : Int) : Nat → Int
  | 0 => s
  | k + 1 => adv (advN s k)
/-- the units that k draws give -/
def uns (s : Int) : Nat → List Q
  | 0 => []
  | k + 1 => uns s k ++ [small (drw (advN s k) 24)]
/-- a generator in its box, to be read and written -/
structure GBox (w : World) (B : Nat) (s : Int) : Prop where
  c : w.cell? ⟨B, 0, none⟩ = some (.int .i64 s)
  f : w.frozen? ⟨B, 0, none⟩ = false
  lt : B < w.heap.size
theorem GBox.later {w w1 : World} {B : Nat} {s : Int} (h : GBox w B s) (hb : Below w.heap.size w w1) : GBox w1 B s :=
  ⟨(hb.cell h.lt).trans h.c, (hb.frozen (p := ⟨B, 0, none⟩) h.lt).trans h.f, Nat.lt_of_lt_of_le h.lt hb.size⟩
theorem GBox.grown {w w1 : World} {B : Nat} {s : Int} {row : Option Nat} (h : GBox w B s) (hg : w.grownBy w1 row) (hne : some B ≠ row) : GBox w1 B s :=
  ⟨hg.cell h.c hne, (World.frozen?_of_block (a := ⟨B, 0, none⟩) (hg.block B h.lt hne)).trans h.f, Nat.lt_of_lt_of_le h.lt hg.size⟩
theorem GBox.set {w : World} {B : Nat} {s : Int} (h : GBox w B s) (t : Int) : GBox (w.setCell ⟨B, 0, none⟩ (.int .i64 t)) B t :=
  ⟨World.cell?_setCell_same _ _ _ h.c, by rw [World.frozen?_setCell]; exact h.f, by simp [World.setCell]; exact h.lt⟩

def RetU (m : Nat) (L : List Q) (e : Ending) (w' : World) : Prop := ∃ g k : Nat, e = .returned (.tuple #[.slice (some ⟨g, 0, none⟩) L.length k, .int .i64 0]) ∧ Lies w' g 0 L ∧ m ≤ g
end Go.Proofs.YtpfhjdmgkckjfaaGreatDoor

namespace Go.Proofs.YtpfhjdmgkckjfaaGreatDoor
set_option linter.unusedVariables false
set_option linter.unusedSimpArgs false
set_option maxRecDepth 1000000
open Go.RowKit
open Um Tm Cm

def RetU3 (m : Nat) (L : List Q) (t : Int) (e : Ending) (w' : World) : Prop := ∃ g k : Nat, e = .returned (.tuple #[.slice (some ⟨g, 0, none⟩) L.length k, .int .i64 t, .int .i64 0]) ∧ Lies w' g 0 L ∧ m ≤ g
def RetF3 (a b c : Int) (L : List Q) (t : Int) (e : Ending) (w' : World) : Prop := ∃ g k : Nat, e = .returned (.tuple #[.agg #[.int .i64 a, .int .i64 b, .int .i64 c, .slice (some ⟨g, 0, none⟩) L.length k], .int .i64 t, .int .i64 0]) ∧ Lies w' g 0 L
/-- sizes and a seed: the error -/
def ssR (a b c s r : Int) : Prop := (¬ Sz a b c ∧ r = 1) ∨ (Sz a b c ∧ ¬ IsSeed s ∧ r = 1)
end Go.Proofs.YtpfhjdmgkckjfaaGreatDoor
