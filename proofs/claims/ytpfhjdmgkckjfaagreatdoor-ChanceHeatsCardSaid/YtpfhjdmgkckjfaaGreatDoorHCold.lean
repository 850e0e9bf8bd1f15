/- A list of units in memory of the call's own, written link by link.
Conditions: those written at each theorem. -/
import Derived.Test.YtpfhjdmgkckjfaaGreatDoorHChoM
import Derived.Test.YtpfhjdmgkckjfaaGreatDoorHProduct
import Derived.Laws.IdiomCopy
import Derived.Test.YtpfhjdmgkckjfaaGreatDoorHRegB
import Derived.Test.YtpfhjdmgkckjfaaGreatDoorHPathA
import Derived.Laws.Rows
namespace Go.Proofs.YtpfhjdmgkckjfaaGreatDoor
set_option linter.unusedVariables false
set_option linter.unusedSimpArgs false
set_option maxRecDepth 1000000
open Go.RowKit
open Um Tm

theorem grown_setCell (w : World) (p : Addr) (v : Value) : w.grownBy (w.setCell p v) (some p.block) :=
  ⟨rfl, rfl, rfl, by simp [World.setCell], fun k _ hk => heap_setCell_other w p k v (fun e => hk (by simp [e]))⟩
theorem grown_setCells (g : Nat) : ∀ (vs : List Value) (o : Nat) (w : World), w.grownBy (w.setCells g o vs) (some g)
  | [], _, w => ⟨rfl, rfl, rfl, Nat.le_refl _, fun _ _ _ => rfl⟩
  | v :: vs, o, w => by
    have h1 := grown_setCell w ⟨g, o, none⟩ v
    have h2 := grown_setCells g vs (o + 1) (w.setCell ⟨g, o, none⟩ v)
    exact ⟨h2.os.trans h1.os, h2.tape.trans h1.tape, h2.output.trans h1.output, Nat.le_trans h1.size h2.size, fun k hk hne => (h2.block k (Nat.lt_of_lt_of_le hk h1.size) hne).trans (h1.block k hk hne)⟩

/-- a list of units in a block that may be written -/
structure LBox (w : World) (g : Nat) (M : List Q) : Prop where
  h : Lies w g 0 M
  free : ∀ j, w.frozen? ⟨g, j, none⟩ = false
  lt : g < w.heap.size
theorem LBox.later {w w1 : World} {g : Nat} {M : List Q} (k : LBox w g M) (hb : Below w.heap.size w w1) : LBox w1 g M :=
  ⟨k.h.later hb, fun j => (hb.frozen (p := ⟨g, j, none⟩) k.lt).trans (k.free j), Nat.lt_of_lt_of_le k.lt hb.size⟩
theorem LBox.grown {w w1 : World} {g : Nat} {M : List Q} {row : Option Nat} (k : LBox w g M) (hg : w.grownBy w1 row) (hne : some g ≠ row) : LBox w1 g M :=
  ⟨fun i x hx => by
    obtain ⟨h0, h1, h2, h3, h4⟩ := k.h i x hx
    exact ⟨hg.cell h0 hne, hg.cell h1 hne, hg.cell h2 hne, hg.cell h3 hne, hg.cell h4 hne⟩,
   fun j => (World.frozen?_of_block (a := ⟨g, j, none⟩) (hg.block g k.lt hne)).trans (k.free j), Nat.lt_of_lt_of_le k.lt hg.size⟩
theorem LBox.put {w : World} {g : Nat} {M : List Q} (k : LBox w g M) (p : Nat) (hp : p < M.length) (x : Q) : LBox (w.setCells g (p * 5) (uc x)) g (M.set p x) := by
  refine ⟨fun i y hy => ?_, fun j => by rw [World.frozen?_setCells]; exact k.free j, Nat.lt_of_lt_of_le k.lt (grown_setCells g (uc x) _ w).size⟩
  rw [List.getElem?_set] at hy
  by_cases he : p = i
  · subst he
    rw [if_pos rfl, if_pos hp] at hy
    simp only [Option.some.injEq] at hy
    subst hy
    obtain ⟨h0, h1, h2, h3, h4⟩ := k.h p _ (List.getElem?_eq_getElem hp)
    rw [Nat.zero_add] at h0 h1 h2 h3 h4
    have c := World.cell?_setCells_in g (uc x) (p * 5) w (fun j hj => by
      have : j = 0 ∨ j = 1 ∨ j = 2 ∨ j = 3 ∨ j = 4 := by rw [uc_len] at hj; omega
      rcases this with rfl | rfl | rfl | rfl | rfl
      · rw [Nat.add_zero, h0]; rfl
      · rw [h1]; rfl
      · rw [h2]; rfl
      · rw [h3]; rfl
      · rw [h4]; rfl)
    rw [Nat.zero_add]
    exact ⟨c 0 (by simp [uc]), c 1 (by simp [uc]), c 2 (by simp [uc]), c 3 (by simp [uc]), c 4 (by simp [uc])⟩
  · rw [if_neg he] at hy
    obtain ⟨h0, h1, h2, h3, h4⟩ := k.h i y hy
    have f : ∀ (j : Nat) (v : Value), j < 5 → w.cell? ⟨g, 0 + i * 5 + j, none⟩ = some v → (w.setCells g (p * 5) (uc x)).cell? ⟨g, 0 + i * 5 + j, none⟩ = some v := fun j v hj hv => by
      rw [World.cell?_setCells_out g (uc x) (p * 5) w _ (fun _ _ => by rw [uc_len]; show 0 + i * 5 + j < p * 5 ∨ p * 5 + 5 ≤ 0 + i * 5 + j; omega)]
      exact hv
    exact ⟨f 0 _ (by omega) h0, f 1 _ (by omega) h1, f 2 _ (by omega) h2, f 3 _ (by omega) h3, f 4 _ (by omega) h4⟩
/-- the list in a slice that a make has just laid -/
theorem made_zero (z : Q) (n : Nat) : ∀ (i : Nat), i < n * 5 → (madeCells (uc z).toArray (n * 5))[i]? = (uc z)[i % 5]? := fun i hi => by
  have h5 : i % 5 < 5 := Nat.mod_lt _ (by decide)
  have h5' : i % (uc z).toArray.size < (uc z).toArray.size := h5
  unfold madeCells
  rw [Array.getElem?_map, Array.getElem?_range, if_pos hi]
  have e : (uc z).toArray[i % (uc z).toArray.size]! = (uc z)[i % 5]'h5 := by
    rw [getElem!_pos (uc z).toArray (i % (uc z).toArray.size) h5']; rfl
  show some ((uc z).toArray[i % (uc z).toArray.size]!) = _
  rw [e, List.getElem?_eq_getElem h5]
theorem LBox.made {w : World} {g n : Nat} {T : TypeId} (h : w.heap[g]? = some (.cells (madeCells (uc zero).toArray (n * 5)) T)) (hg : g < w.heap.size) : LBox w g (List.replicate n zero) := by
  refine ⟨fun i x hx => ?_, fun j => by simp [World.frozen?, h], hg⟩
  have hi : i < n := by have := (List.getElem?_eq_some_iff.1 hx).1; simpa using this
  have hxz : x = zero := by
    rw [List.getElem?_replicate, if_pos hi] at hx
    simpa using hx.symm
  subst hxz
  have f : ∀ j, j < 5 → w.cell? ⟨g, 0 + i * 5 + j, none⟩ = (uc zero)[j]? := fun j hj => by
    have := made_zero zero n (0 + i * 5 + j) (by omega)
    rw [show (0 + i * 5 + j) % 5 = j by omega] at this
    simp only [World.cell?, h]
    simpa using this
  exact ⟨f 0 (by omega), f 1 (by omega), f 2 (by omega), f 3 (by omega), f 4 (by omega)⟩
end Go.Proofs.YtpfhjdmgkckjfaaGreatDoor

namespace Go.Proofs.YtpfhjdmgkckjfaaGreatDoor
set_option linter.unusedVariables false
set_option linter.unusedSimpArgs false
set_option maxRecDepth 1000000
open Go.RowKit
open Um Tm

/-- a field in a box, to be read and written -/
structure FW (w : World) (b : Nat) (x y z : Int) (v : Value) : Prop where
  c0 : w.cell? ⟨b, 0, none⟩ = some (.int .i64 x)
  c1 : w.cell? ⟨b, 1, none⟩ = some (.int .i64 y)
  c2 : w.cell? ⟨b, 2, none⟩ = some (.int .i64 z)
  c3 : w.cell? ⟨b, 3, none⟩ = some v
  free : ∀ j, w.frozen? ⟨b, j, none⟩ = false
  lt : b < w.heap.size
theorem FW.later {w w1 : World} {b : Nat} {x y z : Int} {v : Value} (h : FW w b x y z v) (hb : Below w.heap.size w w1) : FW w1 b x y z v :=
  ⟨(hb.cell h.lt).trans h.c0, (hb.cell h.lt).trans h.c1, (hb.cell h.lt).trans h.c2, (hb.cell h.lt).trans h.c3, fun j => (hb.frozen (p := ⟨b, j, none⟩) h.lt).trans (h.free j), Nat.lt_of_lt_of_le h.lt hb.size⟩
theorem FW.grown {w w1 : World} {b : Nat} {x y z : Int} {v : Value} {row : Option Nat} (h : FW w b x y z v) (hg : w.grownBy w1 row) (hne : some b ≠ row) : FW w1 b x y z v :=
  ⟨hg.cell h.c0 hne, hg.cell h.c1 hne, hg.cell h.c2 hne, hg.cell h.c3 hne, fun j => (World.frozen?_of_block (a := ⟨b, j, none⟩) (hg.block b h.lt hne)).trans (h.free j), Nat.lt_of_lt_of_le h.lt hg.size⟩
theorem LBox.at {w : World} {g : Nat} {M : List Q} (k : LBox w g M) {i : Nat} {x : Q} (hx : M[i]? = some x) : w.cell? ⟨g, i * 5, none⟩ = some (.int .i64 x.a) ∧ w.cell? ⟨g, i * 5 + 1, none⟩ = some (.int .i64 x.b) ∧ w.cell? ⟨g, i * 5 + 2, none⟩ = some (.int .i64 x.c) ∧ w.cell? ⟨g, i * 5 + 3, none⟩ = some (.int .i64 x.d) ∧ w.cell? ⟨g, i * 5 + 4, none⟩ = some (.int .i64 x.n) := by
  have := k.h i x hx
  simpa only [Nat.zero_add] using this
theorem size_ex {a b c : Int} (h : Sz a b c) : ∃ n : Nat, (n : Int) = 3 * (a * b * c) ∧ 0 < n ∧ n ≤ 48 := by
  obtain ⟨-, -, p3, -⟩ := mul_rng h.a1 h.a4 h.b1 h.b4 h.c1 h.c4
  have := h.p
  exact ⟨(3 * (a * b * c)).toNat, by omega, by omega, by omega⟩

theorem owned5_some {w : World} {base : Nat} {T : TypeId} {v : Value} {n : Nat} {xs : List Value} (h : w.ownsRow base T 5 v n xs) (hn : 0 < n) : ∃ g cap, v = .slice (some ⟨g, 0, none⟩) n cap ∧ base ≤ g := by
  rcases h.2 with ⟨rfl, h0⟩ | ⟨g, cap, cur, rfl, hg, _⟩
  · omega
  · exact ⟨g, cap, rfl, hg⟩
/-- a list that is being filled -/
def fillTo (T : List Q) (k : Nat) : List Q := T.take k ++ List.replicate (T.length - k) zero
/-- What a call returns that makes a field of these links. -/
def RetF (a b c : Int) (M : List Q) (e : Ending) (w' : World) : Prop := ∃ g k : Nat, e = .returned (.tuple #[.agg #[.int .i64 a, .int .i64 b, .int .i64 c, .slice (some ⟨g, 0, none⟩) M.length k], .int .i64 0]) ∧ Lies w' g 0 M

end Go.Proofs.YtpfhjdmgkckjfaaGreatDoor

namespace Go.Proofs.YtpfhjdmgkckjfaaGreatDoor
set_option linter.unusedVariables false
set_option linter.unusedSimpArgs false
set_option maxRecDepth 1000000
open Go.RowKit

/-- a block that is known whole -/
structure ABx (w : World) (m : Nat) (T : TypeId) (cs : List Value) : Prop where
  h : w.heap[m]? = some (.cells cs.toArray T (0, 0))
theorem ABx.lt {w : World} {m : Nat} {T : TypeId} {cs : List Value} (k : ABx w m T cs) : m < w.heap.size := (Array.getElem?_eq_some_iff.1 k.h).1
theorem ABx.later {w w1 : World} {m : Nat} {T : TypeId} {cs : List Value} (k : ABx w m T cs) (hb : Below w.heap.size w w1) : ABx w1 m T cs := ⟨(hb.block m k.lt).trans k.h⟩
theorem ABx.grown {w w1 : World} {m : Nat} {T : TypeId} {cs : List Value} {row : Option Nat} (k : ABx w m T cs) (hg : w.grownBy w1 row) (hne : some m ≠ row) : ABx w1 m T cs := ⟨(hg.block m k.lt hne).trans k.h⟩
theorem ABx.cell {w : World} {m : Nat} {T : TypeId} {cs : List Value} (k : ABx w m T cs) (i : Nat) : w.cell? ⟨m, i, none⟩ = cs[i]? := by
  simp [World.cell?, k.h]
theorem ABx.free {w : World} {m : Nat} {T : TypeId} {cs : List Value} (k : ABx w m T cs) (i : Nat) : w.frozen? ⟨m, i, none⟩ = false := by
  simp [World.frozen?, k.h]
theorem ABx.set {w : World} {m : Nat} {T : TypeId} {cs : List Value} (k : ABx w m T cs) (i : Nat) (v : Value) : ABx (w.setCell ⟨m, i, none⟩ v) m T (cs.set i v) := ⟨by
  simp only [World.setCell, Array.getElem?_modify, if_pos rfl, k.h, Option.map_some]
  simp⟩
/-- cells that are put in the place of others -/
def upd : List Value → Nat → List Value → List Value
  | cs, _, [] => cs
  | cs, o, v :: vs => upd (cs.set o v) (o + 1) vs
theorem ABx.sets {m : Nat} {T : TypeId} : ∀ (vs : List Value) (w : World) (cs : List Value) (o : Nat), ABx w m T cs → ABx (w.setCells m o vs) m T (upd cs o vs)
  | [], _, _, _, k => k
  | v :: vs, w, cs, o, k => ABx.sets vs _ _ _ (k.set o v)
theorem upd_mid : ∀ (vs A B C : List Value), vs.length = B.length → upd (A ++ (B ++ C)) A.length vs = A ++ (vs ++ C)
  | [], A, B, C, h => by
    have : B = [] := List.length_eq_zero_iff.1 h.symm
    subst this
    rfl
  | v :: vs, A, [], C, h => by simp at h
  | v :: vs, A, b :: B, C, h => by
    unfold upd
    rw [List.set_append_right _ _ (Nat.le_refl _), Nat.sub_self, List.cons_append, List.set_cons_zero]
    have e : A ++ v :: (B ++ C) = (A ++ [v]) ++ (B ++ C) := by simp
    rw [e, show A.length + 1 = (A ++ [v]).length by simp, upd_mid vs (A ++ [v]) B C (by simpa using h)]
    simp
theorem ABx.news {w : World} {T : TypeId} (cs : Array Value) : ABx (w.alloc (.cells cs T)) w.heap.size T cs.toList := ⟨by
  show (w.heap.push _)[w.heap.size]? = _
  simp⟩
end Go.Proofs.YtpfhjdmgkckjfaaGreatDoor
