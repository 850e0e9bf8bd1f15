/- Rectangles, and means of traces along paths from all sites, as the program makes them.
Conditions: those written at each theorem. -/
import Derived.Test.YtkgihmhehkaocaaGreatRLsC
import Derived.Test.YtkgihmhehkaocaaGreatRLqA
import Derived.Test.YtkgihmhehkaocaaGreatRLinkC
import Derived.Test.YtkgihmhehkaocaaGreatRAlongC
namespace Go.Proofs.YtkgihmhehkaocaaGreat
set_option linter.unusedVariables false
set_option linter.unusedSimpArgs false
set_option maxRecDepth 1000000
open Go.RowKit
open Um Tm Lm

def Dr (a : Int) : Prop := 0 ≤ a ∧ a ≤ 2
def Sd (m : Int) : Prop := 1 ≤ m ∧ m ≤ 3
/-- a rectangle that there is -/
structure Rc (a b m n : Int) : Prop where
  ha : Dr a
  hb : Dr b
  ne : a ≠ b
  hm : Sd m
  hn : Sd n
  hs : m + n ≤ 4
def rc (a b m n : Int) : List Int := List.replicate m.toNat (a + 1) ++ List.replicate n.toNat (b + 1) ++ List.replicate m.toNat (-a - 1) ++ List.replicate n.toNat (-b - 1)
theorem rc_len (a b m n : Int) : (rc a b m n).length = m.toNat + n.toNat + m.toNat + n.toNat := by simp [rc, Nat.add_assoc]
theorem Rc.len {a b m n : Int} (h : Rc a b m n) : (rc a b m n).length ≤ 8 := by
  rw [rc_len]
  obtain ⟨-, -, -, ⟨m1, m2⟩, ⟨n1, n2⟩, s⟩ := h
  omega
theorem sm_rep (k t : Int) (n : Nat) : sm k (List.replicate n t) = n * dlt k t := by
  induction n with
  | zero => simp [sm]
  | succ n ih =>
    rw [List.replicate_succ', sm_snoc, ih, Int.natCast_add, Int.add_mul]
    simp
end Go.Proofs.YtkgihmhehkaocaaGreat

namespace Go.Proofs.YtkgihmhehkaocaaGreat
set_option linter.unusedVariables false
set_option linter.unusedSimpArgs false
set_option maxRecDepth 1000000
open Go.RowKit
open Um Tm

set_option maxHeartbeats 1600000 in
theorem get_ok (a b c s d : Int) (bl off cap : Nat) (L : List Q) (w : World) (hl : Lies w bl off L) (hr : lnR a b c L s d 0) (hF : Fl a b c L) (s0 : 0 ≤ s) (s1 : s < a * b * c) (d0 : 0 ≤ d) (d1 : d ≤ 2) : Calls Tryz.prog 42 #[.agg #[.int .i64 a, .int .i64 b, .int .i64 c, .slice (some ⟨bl, off, none⟩) L.length cap], .int .i64 s, .int .i64 d] w fun e w' => e = .returned (.tuple #[.agg #[.int .i64 (lk L (3 * s + d)).a, .int .i64 (lk L (3 * s + d)).b, .int .i64 (lk L (3 * s + d)).c, .int .i64 (lk L (3 * s + d)).d, .int .i64 (lk L (3 * s + d)).n], .int .i64 0]) ∧ Below w.heap.size w w' := by
  have H := Lib.hid hl
  have hlen := fld_len (Fl_fldR hF)
  have hp16 := hF.z.p
  have c1 := fun (W : World) (h : Lies W bl off L) => checkLink_any a b c s d 0 (some ⟨bl, off, none⟩) cap L W (.inr ⟨bl, off, rfl, h⟩) hr (by omega)
  have hx := lk_get (L := L) (i := 3 * s + d) (by omega) (by rw [hF.n]; omega)
  have i1 : 3 * s + d < (L.length : Int) := by rw [hF.n]; omega
  have s16 : s < 16 := by omega
  have HX := Lib.hid hx
  clear hl hr hF hx s1 hp16
  generalize lk L (3 * s + d) = x at *
  go_enter Tryz.func42, Tryz.ntmps42
  go_wp2_with ((with_reducible refine (c1 _ (H.out.later (by repeat (first | (with_reducible exact Below.refl _ _) | (with_reducible refine Below.setCell ?_ ?_ _) | (with_reducible refine Below.drew ?_) | (with_reducible refine Below.alloc ?_ ?_ _) | omega | (simp <;> omega))))).mono ?_); rintro e w1 ⟨rfl, hw1⟩; have hc1 := Tail.cells hw1; have zw10 := Nat.lt_of_lt_of_le (n := w.heap.size) (by simp <;> omega) hw1.size; have zw11 := Nat.lt_of_lt_of_le (n := w.heap.size + 1) (by simp <;> omega) hw1.size; obtain ⟨l0, l1, l2, l3, l4⟩ := (H.out.later (show Below w.heap.size w w1 by repeat (first | (with_reducible exact Below.refl _ _) | (with_reducible refine Below.setCell ?_ ?_ _) | (with_reducible refine Below.drew ?_) | (with_reducible refine Below.alloc ?_ ?_ _) | (with_reducible refine Below.trans ?_ (Below.mono hw1 ?_)) | (with_reducible exact hw1.size) | omega | (simp <;> omega) | (simp <;> (have s := hw1.size; omega)) | (have s0 := hw1.size; (try simp at s0); (try simp); omega)))).atP HX.out)
  refine bodyPost_ret (v := .tuple #[.agg #[.int .i64 x.a, .int .i64 x.b, .int .i64 x.c, .int .i64 x.d, .int .i64 x.n], .int .i64 0]) ?_ rfl ⟨rfl, ?_⟩
  · simp [results, Tryz.results42, go_sem, hc1, zw10, zw11]
  · repeat (first | (with_reducible exact Below.refl _ _) | (with_reducible refine Below.setCell ?_ ?_ _) | (with_reducible refine Below.drew ?_) | (with_reducible refine Below.alloc ?_ ?_ _) | (with_reducible refine Below.trans ?_ (Below.mono hw1 ?_)) | (with_reducible exact hw1.size) | omega | (simp <;> omega) | (simp <;> (have s := hw1.size; omega)) | (have s0 := hw1.size; (try simp at s0); (try simp); omega))

end Go.Proofs.YtkgihmhehkaocaaGreat
