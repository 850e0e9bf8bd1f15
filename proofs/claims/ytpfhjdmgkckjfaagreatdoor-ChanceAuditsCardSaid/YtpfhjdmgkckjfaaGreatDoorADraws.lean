/- A list of units in memory of the call's own, written link by link.
Conditions: those written at each theorem. -/
import Derived.Test.YtpfhjdmgkckjfaaGreatDoorAThrM
import Derived.Test.YtpfhjdmgkckjfaaGreatDoorAProduct
import Derived.Laws.IdiomCopy
import Derived.Test.YtpfhjdmgkckjfaaGreatDoorRows
import Derived.Test.YtpfhjdmgkckjfaaGreatDoorAMathA
import Derived.Test.YtpfhjdmgkckjfaaGreatDoorARegA
import Derived.WalkKit
import Derived.WalkSpells
import Derived.WalkLawsBesides
import Derived.Lib.Hide
import Derived.BigQuiet
import Derived.Deep.DeepFit
namespace Go.Proofs.YtpfhjdmgkckjfaaGreatDoor
set_option linter.unusedVariables false
set_option linter.unusedSimpArgs false
set_option maxRecDepth 1000000
open Go.RowKit
open Um Tm

theorem grown_setCell (w : World) (p : Addr) (v : Value) : w.grownBy (w.setCell p v) (some p.block) :=
  ⟨rfl, rfl, rfl, by simp [World.setCell], fun k _ hk => heap_setCell_other w p k v (fun e => hk (by simp [e]))⟩
theorem grown_setCells (g : Nat) : ∀ (vs : List Value) (o : Nat) (w : World), w.grownBy (w.setCells g o vs) (some g)
  | [], _, w => ⟨rfl, rfl, rfl, Nat.le_refl _, fun _ _ _ => rfl⟩
  | v :: vs, o, w => by
    have h1 := grown_setCell w ⟨g, o, none⟩ v
    have h2 := grown_setCells g vs (o + 1) (w.setCell ⟨g, o, none⟩ v)
    exact ⟨h2.os.trans h1.os, h2.tape.trans h1.tape, h2.output.trans h1.output, Nat.le_trans h1.size h2.size, fun k hk hne => (h2.block k (Nat.lt_of_lt_of_le hk h1.size) hne).trans (h1.block k hk hne)⟩

/-- a list of units in a block that may be written -/
structure LBox (w : World) (g : Nat) (M : List Q) : Prop where
  h : Lies w g 0 M
  free : ∀ j, w.frozen? ⟨g, j, none⟩ = false
  lt : g < w.heap.size
theorem LBox.later {w w1 : World} {g : Nat} {M : List Q} (k : LBox w g M) (hb : Below w.heap.size w w1) : LBox w1 g M :=
  ⟨k.h.later hb, fun j => (hb.frozen (p := ⟨g, j, none⟩) k.lt).trans (k.free j), Nat.lt_of_lt_of_le k.lt hb.size⟩
theorem LBox.grown {w w1 : World} {g : Nat} {M : List Q} {row : Option Nat} (k : LBox w g M) (hg : w.grownBy w1 row) (hne : some g ≠ row) : LBox w1 g M :=
  ⟨fun i x hx => by
    obtain ⟨h0, h1, h2, h3, h4⟩ := k.h i x hx
    exact ⟨hg.cell h0 hne, hg.cell h1 hne, hg.cell h2 hne, hg.cell h3 hne, hg.cell h4 hne⟩,
   fun j => (World.frozen?_of_block (a := ⟨g, j, none⟩) (hg.block g k.lt hne)).trans (k.free j), Nat.lt_of_lt_of_le k.lt hg.size⟩
theorem LBox.put {w : World} {g : Nat} {M : List Q} (k : LBox w g M) (p : Nat) (hp : p < M.length) (x : Q) : LBox (w.setCells g (p * 5) (uc x)) g (M.set p x) := by
  refine ⟨fun i y hy => ?_, fun j => by rw [World.frozen?_setCells]; exact k.free j, Nat.lt_of_lt_of_le k.lt (grown_setCells g (uc x) _ w).size⟩
  rw [List.getElem?_set] at hy
  by_cases he : p = i
  · subst he
    rw [if_pos rfl, if_pos hp] at hy
    simp only [Option.some.injEq] at hy
    subst hy
    obtain ⟨h0, h1, h2, h3, h4⟩ := k.h p _ (List.getElem?_eq_getElem hp)
    rw [Nat.zero_add] at h0 h1 h2 h3 h4
    have c := World.cell?_setCells_in g (uc x) (p * 5) w (fun j hj => by
      have : j = 0 ∨ j = 1 ∨ j = 2 ∨ j = 3 ∨ j = 4 := by rw [uc_len] at hj; omega
      rcases this with rfl | rfl | rfl | rfl | rfl
      · rw [Nat.add_zero, h0]; rfl
      · rw [h1]; rfl
      · rw [h2]; rfl
      · rw [h3]; rfl
      · rw [h4]; rfl)
    rw [Nat.zero_add]
    exact ⟨c 0 (by simp [uc]), c 1 (by simp [uc]), c 2 (by simp [uc]), c 3 (by simp [uc]), c 4 (by simp [uc])⟩
  · rw [if_neg he] at hy
    obtain ⟨h0, h1, h2, h3, h4⟩ := k.h i y hy
    have f : ∀ (j : Nat) (v : Value), j < 5 → w.cell? ⟨g, 0 + i * 5 + j, none⟩ = some v → (w.setCells g (p * 5) (uc x)).cell? ⟨g, 0 + i * 5 + j, none⟩ = some v := fun j v hj hv => by
      rw [World.cell?_setCells_out g (uc x) (p * 5) w _ (fun _ _ => by rw [uc_len]; show 0 + i * 5 + j < p * 5 ∨ p * 5 + 5 ≤ 0 + i * 5 + j; omega)]
      exact hv
    exact ⟨f 0 _ (by omega) h0, f 1 _ (by omega) h1, f 2 _ (by omega) h2, f 3 _ (by omega) h3, f 4 _ (by omega) h4⟩
/-- the list in a slice that a make has just laid -/
theorem made_zero (z : Q) (n : Nat) : ∀ (i : Nat), i < n * 5 → (madeCells (uc z).toArray (n * 5))[i]? = (uc z)[i % 5]? := fun i hi => by
  have h5 : i % 5 < 5 := Nat.mod_lt _ (by decide)
  have h5' : i % (uc z).toArray.size < (uc z).toArray.size := h5
  unfold madeCells
  rw [Array.getElem?_map, Array.getElem?_range, if_pos hi]
  have e : (uc z).toArray[i % (uc z).toArray.size]! = (uc z)[i % 5]'h5 := by
    rw [getElem!_pos (uc z).toArray (i % (uc z).toArray.size) h5']; rfl
  show some ((uc z).toArray[i % (uc z).toArray.size]!) = _
  rw [e, List.getElem?_eq_getElem h5]
theorem LBox.made {w : World} {g n : Nat} {T : TypeId} (h : w.heap[g]? = some (.cells (madeCells (uc zero).toArray (n * 5)) T)) (hg : g < w.heap.size) : LBox w g (List.replicate n zero) := by
  refine ⟨fun i x hx => ?_, fun j => by simp [World.frozen?, h], hg⟩
  have hi : i < n := by have := (List.getElem?_eq_some_iff.1 hx).1; simpa using this
  have hxz : x = zero := by
    rw [List.getElem?_replicate, if_pos hi] at hx
    simpa using hx.symm
  subst hxz
  have f : ∀ j, j < 5 → w.cell? ⟨g, 0 + i * 5 + j, none⟩ = (uc zero)[j]? := fun j hj => by
    have := made_zero zero n (0 + i * 5 + j) (by omega)
    rw [show (0 + i * 5 + j) % 5 = j by omega] at this
    simp only [World.cell?, h]
    simpa using this
  exact ⟨f 0 (by omega), f 1 (by omega), f 2 (by omega), f 3 (by omega), f 4 (by omega)⟩
end Go.Proofs.YtpfhjdmgkckjfaaGreatDoor

namespace Go.Proofs.YtpfhjdmgkckjfaaGreatDoor
set_option linter.unusedVariables false
set_option linter.unusedSimpArgs false
set_option maxRecDepth 1000000
open Go.RowKit
open Cm

set_option maxHeartbeats 400000 in
theorem chNext_any (s : Int) (w : World) (h : IsSeed s) : Calls Tryz.prog 70 #[.int .i64 s] w fun e w' => e = .returned (.int .i64 (nxt s)) ∧ w = w' := by
  obtain ⟨h1, h2⟩ := h
  go_enter Tryz.func70, Tryz.ntmps70
  go_wp2
  go_ret
  exact ⟨rfl, rfl⟩
set_option maxHeartbeats 400000 in
theorem refNextS_any (s : Int) (w : World) (h : IsSeed s) : Calls Tryz.prog 93 #[.int .i64 s] w fun e w' => e = .returned (.int .i64 (nxt s)) ∧ w = w' := by
  obtain ⟨h1, h2⟩ := h
  go_enter Tryz.func93, Tryz.ntmps93
  go_wp2
  go_ret
  exact ⟨rfl, rfl⟩
/-- the error of a seed -/
def sdR (s r : Int) : Prop := (IsSeed s ∧ r = 0) ∨ (¬ IsSeed s ∧ r = 1)
set_option maxHeartbeats 400000 in
theorem checkSeed_any (s r : Int) (w : World) (h : sdR s r) : Calls Tryz.prog 69 #[.int .i64 s] w fun e w' => e = .returned (.int .i64 r) ∧ w = w' := by
  rcases h with ⟨⟨h1, h2⟩, rfl⟩ | ⟨h, rfl⟩
  · go_enter Tryz.func69, Tryz.ntmps69
    go_wp2
    go_ret
    exact ⟨rfl, rfl⟩
  · unfold IsSeed at h
    by_cases h1 : s < 1
    · clear h
      go_enter Tryz.func69, Tryz.ntmps69
      go_wp2
      go_ret
      exact ⟨rfl, rfl⟩
    · have h2 : 2147483647 ≤ s := by omega
      clear h
      go_enter Tryz.func69, Tryz.ntmps69
      go_wp2
      go_ret
      exact ⟨rfl, rfl⟩
set_option maxHeartbeats 400000 in
theorem within5_any (n lo hi : Int) (w : World) (r : Bool) (h : (lo ≤ n ∧ n ≤ hi ∧ r = true) ∨ (¬ (lo ≤ n ∧ n ≤ hi) ∧ r = false)) :
    Calls Tryz.prog 45 #[.int .i64 n, .int .i64 lo, .int .i64 hi] w fun e w' => e = .returned (.bool r) ∧ w = w' := by
  rcases h with ⟨a, b, rfl⟩ | ⟨h, rfl⟩
  · go_enter Tryz.func45, Tryz.ntmps45
    go_wp2
    go_ret
    exact ⟨rfl, rfl⟩
  · by_cases a : lo ≤ n
    · have b : ¬ n ≤ hi := fun b => h ⟨a, b⟩
      clear h
      go_enter Tryz.func45, Tryz.ntmps45
      go_wp2
      go_ret
      exact ⟨rfl, rfl⟩
    · clear h
      go_enter Tryz.func45, Tryz.ntmps45
      go_wp2
      go_ret
      exact ⟨rfl, rfl⟩
set_option maxHeartbeats 400000 in
theorem isSeed_any (s : Int) (w : World) (r : Bool) (h : (IsSeed s ∧ r = true) ∨ (¬ IsSeed s ∧ r = false)) :
    Calls Tryz.prog 92 #[.int .i64 s] w fun e w' => e = .returned (.bool r) ∧ w = w' := by
  have c1 := fun W : World => within5_any s 1 2147483646 W r (by
    rcases h with ⟨h, rfl⟩ | ⟨h, rfl⟩
    · exact .inl ⟨h.1, h.2, rfl⟩
    · exact .inr ⟨h, rfl⟩)
  clear h
  go_enter Tryz.func92, Tryz.ntmps92
  go_wp2_with ((with_reducible refine (c1 _).mono ?_); rintro e w1 ⟨rfl, rfl⟩)
  go_ret
  exact ⟨rfl, rfl⟩
/-- a draw, as it is made -/
theorem drw_eq (s n : Int) : ((nxt s - 1) * 2147483646 + nxt (nxt s) - 1) % n = drw s n := by unfold drw; congr 1; omega
set_option maxHeartbeats 400000 in
theorem below_any (B : Nat) (s n : Int) (w : World) (h : IsSeed s) (h1 : 1 ≤ n) (h2 : n ≤ 1099511627776) (hc : w.cell? ⟨B, 0, none⟩ = some (.int .i64 s)) (hf : w.frozen? ⟨B, 0, none⟩ = false) :
    Calls Tryz.prog 67 #[.pointer (some ⟨B, 0, none⟩), .int .i64 n] w fun e w' => e = .returned (.int .i64 (drw s n)) ∧ w.setCell ⟨B, 0, none⟩ (.int .i64 (adv s)) = w' := by
  have c1 := fun W : World => chNext_any s W h
  have c2 := fun W : World => chNext_any (nxt s) W (nxt_seed h)
  obtain ⟨b1, b2, b3, b4, b5, b6⟩ := draw_bnd h
  have E := Lib.hid (drw_eq s n)
  have A := Lib.hid (show adv s = nxt (nxt s) from rfl)
  clear h
  generalize nxt (nxt s) = b at *
  generalize nxt s = a at *
  have hc2 := World.cell?_setCell_same w ⟨B, 0, none⟩ (.int .i64 b) hc
  go_enter Tryz.func67, Tryz.ntmps67
  go_wp2_with (first | ((with_reducible refine (c1 _).mono ?_); clear c1; rintro e w1 ⟨rfl, rfl⟩) | ((with_reducible refine (c2 _).mono ?_); clear c2; rintro e w1 ⟨rfl, rfl⟩))
  go_ret
  exact ⟨congrArg (fun z => Ending.returned (Value.int .i64 z)) E.out, by rw [A.out]⟩
set_option maxHeartbeats 400000 in
theorem refDrawS_any (s n : Int) (w : World) (h : IsSeed s) (h1 : 1 ≤ n) (h2 : n ≤ 1099511627776) :
    Calls Tryz.prog 68 #[.int .i64 s, .int .i64 n] w fun e w' => e = .returned (.tuple #[.int .i64 (drw s n), .int .i64 (adv s)]) ∧ w = w' := by
  have c1 := fun W : World => refNextS_any s W h
  have c2 := fun W : World => refNextS_any (nxt s) W (nxt_seed h)
  obtain ⟨b1, b2, b3, b4, b5, b6⟩ := draw_bnd h
  have E := Lib.hid (show ((nxt s - 1) * 2147483646 + (nxt (nxt s) - 1)) % n = drw s n from rfl)
  have A := Lib.hid (show nxt (nxt s) = adv s from rfl)
  clear h
  generalize nxt (nxt s) = b at *
  generalize nxt s = a at *
  go_enter Tryz.func68, Tryz.ntmps68
  go_wp2_with (first | ((with_reducible refine (c1 _).mono ?_); clear c1; rintro e w1 ⟨rfl, rfl⟩) | ((with_reducible refine (c2 _).mono ?_); clear c2; rintro e w1 ⟨rfl, rfl⟩))
  go_ret2
  refine ⟨?_, rfl⟩
  show Ending.returned (.tuple #[.int .i64 (((a - 1) * 2147483646 + (b - 1)) % n), .int .i64 b]) = _
  rw [E.out, A.out]
end Go.Proofs.YtpfhjdmgkckjfaaGreatDoor
