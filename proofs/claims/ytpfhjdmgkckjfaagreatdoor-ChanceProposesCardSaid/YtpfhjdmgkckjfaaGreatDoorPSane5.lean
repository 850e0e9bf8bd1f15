/- The weights of all values of a link, as the program makes them out of its table.
Conditions: those written at each theorem. -/
import Derived.Test.YtpfhjdmgkckjfaaGreatDoorPTabC
import Derived.Test.YtpfhjdmgkckjfaaGreatDoorPThrC
import Derived.Test.YtpfhjdmgkckjfaaGreatDoorPOpen4
import Derived.Test.YtpfhjdmgkckjfaaGreatDoorPSame4
namespace Go.Proofs.YtpfhjdmgkckjfaaGreatDoor
set_option linter.unusedVariables false
set_option linter.unusedSimpArgs false
set_option maxRecDepth 1000000
open Go.RowKit
open Um Tm Cm

theorem infoWs : (Tryz.prog.info? 29).map (·.size) = some 24 := by kernel_rfl
/-- 24 zeros -/
def zero24 : List Value := (List.replicate 24 0).map vi
theorem zeroWs : zero24.length = 24 := by decide
theorem zero24_eq : (zero24.toArray : Array Value) = #[.int .i64 0, .int .i64 0, .int .i64 0, .int .i64 0, .int .i64 0, .int .i64 0, .int .i64 0, .int .i64 0, .int .i64 0, .int .i64 0, .int .i64 0, .int .i64 0, .int .i64 0, .int .i64 0, .int .i64 0, .int .i64 0, .int .i64 0, .int .i64 0, .int .i64 0, .int .i64 0, .int .i64 0, .int .i64 0, .int .i64 0, .int .i64 0] := by rfl
/-- the weights that are known of all -/
def wsCells (Z : List Value) (ws : List Int) : List Value := ws.map vi ++ Z.drop ws.length
theorem wsCells_nil (Z : List Value) : wsCells Z [] = Z := by simp [wsCells]
theorem wsCells_put (Z : List Value) (hz : Z.length = 24) (ws : List Int) (x : Int) (h : ws.length < 24) : (wsCells Z ws).set ws.length (vi x) = wsCells Z (ws ++ [x]) := by
  have hd : ws.length < Z.length := by omega
  unfold wsCells
  rw [List.set_append_right _ _ (by simp), List.length_map, Nat.sub_self, List.drop_eq_getElem_cons hd, List.set_cons_zero]
  simp
theorem wsCells_at (Z : List Value) (hz : Z.length = 24) (ws : List Int) (h : ws.length < 24) : ∃ v, (wsCells Z ws)[ws.length]? = some v := by
  have : ws.length < (wsCells Z ws).length := by unfold wsCells; rw [List.length_append, List.length_map, List.length_drop, hz]; omega
  exact ⟨_, List.getElem?_eq_getElem this⟩
theorem wsCells_all (Z : List Value) (hz : Z.length = 24) (ws : List Int) (h : ws.length = 24) : wsCells Z ws = ws.map vi := by
  unfold wsCells
  rw [List.drop_eq_nil_of_le (by omega), List.append_nil]
/-- the weights of the first values -/
def wsK (a b c : Int) (L : List Q) (w : List Int) (l : Int) (ps : List Int) (k : Nat) : List Int := (List.range k).map fun (i : Nat) => wprod a b c L w l (small i) ps
theorem wsK_len (a b c : Int) (L : List Q) (w : List Int) (l : Int) (ps : List Int) (k : Nat) : (wsK a b c L w l ps k).length = k := by simp [wsK]
theorem wsK_succ (a b c : Int) (L : List Q) (w : List Int) (l : Int) (ps : List Int) (k : Nat) : wsK a b c L w l ps (k + 1) = wsK a b c L w l ps k ++ [wprod a b c L w l (small k) ps] := by
  simp [wsK, List.range_succ]
theorem wsOne (ws : List Int) : (ws.map vi).toArray.all (·.oneCell') = true := by
  simp only [List.all_toArray, List.all_eq_true, List.mem_map]
  rintro v ⟨x, -, rfl⟩
  rfl
end Go.Proofs.YtpfhjdmgkckjfaaGreatDoor

namespace Go.Proofs.YtpfhjdmgkckjfaaGreatDoor
set_option linter.unusedVariables false
set_option linter.unusedSimpArgs false
set_option maxRecDepth 1000000
open Go.RowKit
open Cm Tm

theorem sz221 : Sz 2 2 1 := ⟨by omega, by omega, by omega, by omega, by omega, by omega, by omega⟩
theorem thr221 : thr 2 2 1 0 = [0, 1, 6] := by decide +kernel
theorem nxt_ex : nxt 48271 = 182605794 := by decide
theorem three_cells {w : World} {b : Nat} {x y z : Int} (h0 : w.cell? ⟨b, 0, none⟩ = some (.int .i64 x)) (h1 : w.cell? ⟨b, 1, none⟩ = some (.int .i64 y)) (h2 : w.cell? ⟨b, 2, none⟩ = some (.int .i64 z)) : LiesI w b 0 [x, y, z] := fun i v hv => by
  match i, hv with
  | 0, hv => simp at hv; subst hv; simpa using h0
  | 1, hv => simp at hv; subst hv; simpa using h1
  | 2, hv => simp at hv; subst hv; simpa using h2
  | n + 3, hv => simp at hv
set_option maxHeartbeats 1600000 in
theorem sane5_any (w : World) : Calls Tryz.prog 12 #[] w fun e w' => e = .returned (.bool true) ∧ Below w.heap.size w w' := by
  have c1 := fun W : World => step_any 48271 182605794 0 W (.inl ⟨⟨by omega, by omega⟩, nxt_ex.symm, rfl⟩)
  have c2 : ∀ W : World, Calls Tryz.prog 38 #[.agg #[.int .i64 2, .int .i64 2, .int .i64 1], .int .i64 0] W fun e w' => ∃ g k : Nat, e = .returned (.tuple #[.slice (some ⟨g, 0, none⟩) 3 k, .int .i64 0]) ∧ LiesI w' g 0 [0, 1, 6] ∧ W.heap.size ≤ g ∧ Below W.heap.size W w' := fun W => by
    have := through_ok 2 2 1 0 W sz221 (by omega) (by omega)
    rw [thr221] at this
    exact this
  have c3 : ∀ (g k b n : Nat) (W : World), LiesI W g 0 [0, 1, 6] → LiesI W b 0 [0, 1, 6] → Calls Tryz.prog 39 #[.slice (some ⟨g, 0, none⟩) 3 k, .slice (some ⟨b, 0, none⟩) 3 n] W fun e w' => e = .returned (.bool true) ∧ Below W.heap.size W w' := fun g k b n W h1 h2 =>
    sameInts4_any (some ⟨g, 0, none⟩) (some ⟨b, 0, none⟩) k n [0, 1, 6] [0, 1, 6] W (.inr ⟨g, 0, rfl, h1⟩) (.inr ⟨b, 0, rfl, h2⟩) (by decide)
  go_enter Tryz.func12, Tryz.ntmps12
  go_wp2_with (first | ((with_reducible refine (c1 _).mono ?_); rintro e w1 ⟨rfl, rfl⟩) | ((with_reducible refine (c2 _).mono ?_); rintro e w2 ⟨g, k, rfl, hl, hg, hw2⟩; have HL := Lib.hid hl; clear hl) | ((with_reducible refine (c3 _ _ _ _ _ (HL.out.later ((Below.refl _ _).alloc (Nat.le_refl _) _)) (three_cells (by simp [go_sem]) (by simp [go_sem]) (by simp [go_sem]))).mono ?_); rintro e w3 ⟨rfl, hw3⟩))
  go_ret
  exact ⟨rfl, by repeat (first | (with_reducible exact Below.refl _ _) | (with_reducible refine Below.setCell ?_ ?_ _) | (with_reducible refine Below.drew ?_) | (with_reducible refine Below.alloc ?_ ?_ _) | (with_reducible refine Below.trans ?_ (Below.mono hw3 ?_)) | (with_reducible refine Below.trans ?_ (Below.mono hw2 ?_)) | (with_reducible exact hw3.size) | (with_reducible exact hw2.size) | omega | (simp <;> omega) | (simp <;> (have s := hw3.size; omega)) | (simp <;> (have s := hw2.size; omega)) | (have s0 := hw3.size; (try simp at s0); have s1 := hw2.size; (try simp at s1); (try simp); omega))⟩
end Go.Proofs.YtpfhjdmgkckjfaaGreatDoor
