/- The unit along a path, as the program makes it.
Conditions: those written at each theorem. -/
import Derived.Test.YtpfhjdmgkckjfaaGreatDoorPOpen4
import Derived.Test.YtpfhjdmgkckjfaaGreatDoorPPathA
import Derived.Test.YtpfhjdmgkckjfaaGreatDoorPRegB
import Derived.Test.YtpfhjdmgkckjfaaGreatDoorPMid
import Derived.Test.YtpfhjdmgkckjfaaGreatDoorPShelf
import Derived.Laws.Rows
import Derived.Test.YtpfhjdmgkckjfaaGreatDoorPWlkA
import Derived.Deep.RegionHeld3
import Derived.Test.YtpfhjdmgkckjfaaGreatDoorPCopR
import Derived.Deep.CutRange
namespace Go.Proofs.YtpfhjdmgkckjfaaGreatDoor
set_option linter.unusedVariables false
set_option linter.unusedSimpArgs false
set_option maxRecDepth 1000000
open Go.RowKit
open Um Tm

theorem lies_re {W : World} {b off : Nat} {L : List Q} (h : Lies W b off L) (d : Nat) (os : Array Obj) : Lies (Sort.grow (redrawn W d) os) b off L := fun i x hx => by
  have f := h i x hx
  have g : ∀ a : Addr, ∀ v : Value, W.cell? a = some v → (Sort.grow (redrawn W d) os).cell? a = some v := fun a v hv => by rw [Tail.cell_re W d os a (World.block_lt_of_cell? W a hv)]; exact hv
  exact ⟨g _ _ f.1, g _ _ f.2.1, g _ _ f.2.2.1, g _ _ f.2.2.2.1, g _ _ f.2.2.2.2⟩
theorem Lies.atP {w : World} {b off p : Nat} {L : List Q} (h : Lies w b off L) {x : Q} (hx : L[p]? = some x) : w.cell? ⟨b, off + p * 5, none⟩ = some (.int .i64 x.a) ∧ w.cell? ⟨b, off + p * 5 + 1, none⟩ = some (.int .i64 x.b) ∧ w.cell? ⟨b, off + p * 5 + 2, none⟩ = some (.int .i64 x.c) ∧ w.cell? ⟨b, off + p * 5 + 3, none⟩ = some (.int .i64 x.d) ∧ w.cell? ⟨b, off + p * 5 + 4, none⟩ = some (.int .i64 x.n) := h p x hx

/-- the error of a field, a site and a path -/
def asR (a b c : Int) (L : List Q) (s : Int) (l : List Int) (r : Int) : Prop := (fldR a b c L r ∧ r ≠ 0) ∨ (fldR a b c L 0 ∧ wkR a b c s l r)
end Go.Proofs.YtpfhjdmgkckjfaaGreatDoor

namespace Go.Proofs.YtpfhjdmgkckjfaaGreatDoor
set_option linter.unusedVariables false
set_option linter.unusedSimpArgs false
set_option maxRecDepth 1000000
open Go.RowKit

/-- a block that is known whole -/
structure ABx (w : World) (m : Nat) (T : TypeId) (cs : List Value) : Prop where
  h : w.heap[m]? = some (.cells cs.toArray T (0, 0))
theorem ABx.lt {w : World} {m : Nat} {T : TypeId} {cs : List Value} (k : ABx w m T cs) : m < w.heap.size := (Array.getElem?_eq_some_iff.1 k.h).1
theorem ABx.later {w w1 : World} {m : Nat} {T : TypeId} {cs : List Value} (k : ABx w m T cs) (hb : Below w.heap.size w w1) : ABx w1 m T cs := ⟨(hb.block m k.lt).trans k.h⟩
theorem ABx.grown {w w1 : World} {m : Nat} {T : TypeId} {cs : List Value} {row : Option Nat} (k : ABx w m T cs) (hg : w.grownBy w1 row) (hne : some m ≠ row) : ABx w1 m T cs := ⟨(hg.block m k.lt hne).trans k.h⟩
theorem ABx.cell {w : World} {m : Nat} {T : TypeId} {cs : List Value} (k : ABx w m T cs) (i : Nat) : w.cell? ⟨m, i, none⟩ = cs[i]? := by
  simp [World.cell?, k.h]
theorem ABx.free {w : World} {m : Nat} {T : TypeId} {cs : List Value} (k : ABx w m T cs) (i : Nat) : w.frozen? ⟨m, i, none⟩ = false := by
  simp [World.frozen?, k.h]
theorem ABx.set {w : World} {m : Nat} {T : TypeId} {cs : List Value} (k : ABx w m T cs) (i : Nat) (v : Value) : ABx (w.setCell ⟨m, i, none⟩ v) m T (cs.set i v) := ⟨by
  simp only [World.setCell, Array.getElem?_modify, if_pos rfl, k.h, Option.map_some]
  simp⟩
/-- cells that are put in the place of others -/
def upd : List Value → Nat → List Value → List Value
  | cs, _, [] => cs
  | cs, o, v :: vs => upd (cs.set o v) (o + 1) vs
theorem ABx.sets {m : Nat} {T : TypeId} : ∀ (vs : List Value) (w : World) (cs : List Value) (o : Nat), ABx w m T cs → ABx (w.setCells m o vs) m T (upd cs o vs)
  | [], _, _, _, k => k
  | v :: vs, w, cs, o, k => ABx.sets vs _ _ _ (k.set o v)
theorem upd_mid : ∀ (vs A B C : List Value), vs.length = B.length → upd (A ++ (B ++ C)) A.length vs = A ++ (vs ++ C)
  | [], A, B, C, h => by
    have : B = [] := List.length_eq_zero_iff.1 h.symm
    subst this
    rfl
  | v :: vs, A, [], C, h => by simp at h
  | v :: vs, A, b :: B, C, h => by
    unfold upd
    rw [List.set_append_right _ _ (Nat.le_refl _), Nat.sub_self, List.cons_append, List.set_cons_zero]
    have e : A ++ v :: (B ++ C) = (A ++ [v]) ++ (B ++ C) := by simp
    rw [e, show A.length + 1 = (A ++ [v]).length by simp, upd_mid vs (A ++ [v]) B C (by simpa using h)]
    simp
theorem ABx.news {w : World} {T : TypeId} (cs : Array Value) : ABx (w.alloc (.cells cs T)) w.heap.size T cs.toList := ⟨by
  show (w.heap.push _)[w.heap.size]? = _
  simp⟩
end Go.Proofs.YtpfhjdmgkckjfaaGreatDoor

namespace Go.Proofs.YtpfhjdmgkckjfaaGreatDoor
set_option linter.unusedVariables false
set_option linter.unusedSimpArgs false
set_option maxRecDepth 1000000
open Go.RowKit

theorem belDG {w w1 : World} (h : Below w.drew.heap.size w.drew w1) : Below w.heap.size w w1 := ⟨h.os, h.tape, h.output, h.size, h.block⟩
theorem held_belowG {W W1 : World} {b i : Nat} {v : Value} (h : Below W.heap.size W W1) (hc : W.cell? ⟨b, i, none⟩ = some v) : W1.cell? ⟨b, i, none⟩ = some v := (h.cell (World.block_lt_of_cell? W _ hc)).trans hc
theorem alloc_atG {w : World} {o : Obj} : (w.alloc o).heap[w.heap.size]? = some o := by
  show (w.heap.push o)[w.heap.size]? = some o
  simp
open Um
theorem one_boxI {w : World} {b : Nat} {x : Q} (h : LBox w b [x]) : (w.cell? ⟨b, 0, none⟩ = some (.int .i64 x.a) ∧ w.cell? ⟨b, 1, none⟩ = some (.int .i64 x.b) ∧ w.cell? ⟨b, 2, none⟩ = some (.int .i64 x.c) ∧ w.cell? ⟨b, 3, none⟩ = some (.int .i64 x.d) ∧ w.cell? ⟨b, 4, none⟩ = some (.int .i64 x.n)) ∧ (∀ j, w.frozen? ⟨b, j, none⟩ = false) ∧ b < w.heap.size := ⟨by simpa using h.h 0 x rfl, h.free, h.lt⟩
end Go.Proofs.YtpfhjdmgkckjfaaGreatDoor

namespace Go.Proofs.YtpfhjdmgkckjfaaGreatDoor
set_option linter.unusedVariables false
set_option linter.unusedSimpArgs false
set_option maxRecDepth 1000000
open Go.RowKit
open Um Tm

set_option maxHeartbeats 3200000 in
theorem refWith_any (a b c l : Int) (u : Q) (bl off cap : Nat) (L : List Q) (w : World) (hl : Lies w bl off L) (hpos : 0 < L.length) (hlen : L.length ≤ 100) (h0 : 0 ≤ l) (h1 : l < (L.length : Int)) : Calls Tryz.prog 52 #[.agg #[.int .i64 a, .int .i64 b, .int .i64 c, .slice (some ⟨bl, off, none⟩) L.length cap], .int .i64 l, .agg #[.int .i64 u.a, .int .i64 u.b, .int .i64 u.c, .int .i64 u.d, .int .i64 u.n]] w fun e w' => (∃ g k : Nat, e = .returned (.agg #[.int .i64 a, .int .i64 b, .int .i64 c, .slice (some ⟨g, 0, none⟩) L.length k]) ∧ LBox w' g (L.set l.toNat u) ∧ w.heap.size ≤ g) ∧ Below w.heap.size w w' := by
  have H := Lib.hid hl
  have cC := fun (W : World) (h : Lies W bl off L) => refCopy4_some a b c bl off cap L W h hpos hlen
  have i2 : l.toNat < L.length := by omega
  obtain ⟨x, hx⟩ : ∃ x, L[l.toNat]? = some x := ⟨_, List.getElem?_eq_getElem i2⟩
  have HX := Lib.hid hx
  clear hl hx hpos
  go_enter Tryz.func52, Tryz.ntmps52
  have F0 : Hid (FW (((w.alloc (.cells #[.int .i64 a, .int .i64 b, .int .i64 c, .slice (some ⟨bl, off, none⟩) L.length cap] 25)).alloc (.cells #[.int .i64 u.a, .int .i64 u.b, .int .i64 u.c, .int .i64 u.d, .int .i64 u.n] 73)).alloc (.cells #[.int .i64 0, .int .i64 0, .int .i64 0, .slice none 0 0] 25)) w.heap.size a b c (.slice (some ⟨bl, off, none⟩) L.length cap)) := Lib.hid FW.n3a
  have R0 : Hid (FW (((w.alloc (.cells #[.int .i64 a, .int .i64 b, .int .i64 c, .slice (some ⟨bl, off, none⟩) L.length cap] 25)).alloc (.cells #[.int .i64 u.a, .int .i64 u.b, .int .i64 u.c, .int .i64 u.d, .int .i64 u.n] 73)).alloc (.cells #[.int .i64 0, .int .i64 0, .int .i64 0, .slice none 0 0] 25)) (w.heap.size + 1 + 1) 0 0 0 (.slice none 0 0)) := Lib.hid FW.n3c
  have U0 : Hid (LBox (((w.alloc (.cells #[.int .i64 a, .int .i64 b, .int .i64 c, .slice (some ⟨bl, off, none⟩) L.length cap] 25)).alloc (.cells #[.int .i64 u.a, .int .i64 u.b, .int .i64 u.c, .int .i64 u.d, .int .i64 u.n] 73)).alloc (.cells #[.int .i64 0, .int .i64 0, .int .i64 0, .slice none 0 0] 25)) (w.heap.size + 1) [u]) := Lib.hid ⟨fun i z hz => by
    match i, hz with
    | 0, hz => simp at hz; subst hz; exact ⟨by simp [go_sem], by simp [go_sem], by simp [go_sem], by simp [go_sem], by simp [go_sem]⟩
    | n + 1, hz => simp at hz, fun j => by simp [go_sem], by simp <;> omega⟩
  go_wp2_with (fail)
  refine (cC _ (H.out.later ba3)).mono ?_
  rintro e w1 ⟨g, k, rfl, LB, hg, hw1⟩
  have O1 : Hid (FW (w1.alloc (.cells #[.int .i64 a, .int .i64 b, .int .i64 c, .slice (some ⟨g, 0, none⟩) L.length k] 25)) w1.heap.size a b c (.slice (some ⟨g, 0, none⟩) L.length k)) := Lib.hid ⟨by simp [go_sem], by simp [go_sem], by simp [go_sem], by simp [go_sem], fun j => by simp [go_sem], by simp⟩
  have R1 := Lib.hid ((R0.out.later hw1).later (ba1 (o := .cells #[.int .i64 a, .int .i64 b, .int .i64 c, .slice (some ⟨g, 0, none⟩) L.length k] 25)))
  have U1 := Lib.hid ((U0.out.later hw1).later (ba1 (o := .cells #[.int .i64 a, .int .i64 b, .int .i64 c, .slice (some ⟨g, 0, none⟩) L.length k] 25)))
  have L1 := Lib.hid (LB.later (ba1 (o := .cells #[.int .i64 a, .int .i64 b, .int .i64 c, .slice (some ⟨g, 0, none⟩) L.length k] 25)))
  have b1 : Below w.heap.size w w1 := ba3.trans (hw1.mono ba3.size)
  have B1 := Lib.hid (b1.trans ((ba1 (o := .cells #[.int .i64 a, .int .i64 b, .int .i64 c, .slice (some ⟨g, 0, none⟩) L.length k] 25)).mono b1.size))
  have HG := Lib.hid (And.intro (show w.heap.size + 1 + 1 < g from Nat.lt_of_lt_of_le R0.out.lt hg) LB.lt)
  clear hw1 F0 R0 U0 LB hg b1 cC
  go_upto_region 2 with (fail)
  generalize w1.alloc (.cells #[.int .i64 a, .int .i64 b, .int .i64 c, .slice (some ⟨g, 0, none⟩) L.length k] 25) = X at *
  generalize w1.heap.size = ob at *
  obtain ⟨o0, o1, o2, o3, of, ol⟩ := O1.out
  obtain ⟨r0, r1, r2, r3, rf, rl⟩ := R1.out
  obtain ⟨⟨u0, u1, u2, u3, u4⟩, uf, ul⟩ := one_boxI U1.out
  obtain ⟨l0, l1, l2, l3, l4⟩ := L1.out.at HX.out
  have lf := L1.out.free
  have ll := L1.out.lt
  obtain ⟨hgr, hgo⟩ := HG.out
  have n1 : ¬ g = w.heap.size + 1 + 1 := by omega
  have n2 : ¬ w.heap.size + 1 + 1 = g := by omega
  have n3 : ¬ g = ob := by omega
  have n4 : ¬ ob = g := by omega
  have hob : w.heap.size + 1 + 1 < ob := by omega
  have G1 := grown_setCells g (uc u) (l.toNat * 5) X
  have L2 := L1.out.put l.toNat i2 u
  have hb4 := B1.out.grown G1 B1.out.size (fun j hj => by cases hj; omega)
  have G2 := grown_setCells (w.heap.size + 1 + 1) [.int .i64 a, .int .i64 b, .int .i64 c, .slice (some ⟨g, 0, none⟩) L.length k] 0 (X.setCells g (l.toNat * 5) (uc u))
  have L3 := Lib.hid (L2.grown G2 (by simp; omega))
  have B3 := Lib.hid (hb4.grown G2 hb4.size (fun j hj => by cases hj; omega))
  clear G1 L2 hb4 G2 O1 R1 U1 L1 B1
  go_wp2
  refine bodyPost_ret (v := .agg #[.int .i64 a, .int .i64 b, .int .i64 c, .slice (some ⟨g, 0, none⟩) L.length k]) ?_ rfl ⟨⟨g, k, rfl, L3.out, by omega⟩, B3.out⟩
  simp [results, Tryz.results52, go_sem, r0, r1, r2, r3, rl, n1, n2]
end Go.Proofs.YtpfhjdmgkckjfaaGreatDoor
