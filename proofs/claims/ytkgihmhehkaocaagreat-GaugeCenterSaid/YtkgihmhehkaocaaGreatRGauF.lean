/- Quaternions with integers, and sums that must be 0, as the program reckons them.
Conditions: the bounds written at each theorem. -/
import Derived.Test.YtkgihmhehkaocaaGreatRHkM
import Derived.Test.YtkgihmhehkaocaaGreatRGauC
import Derived.Test.YtkgihmhehkaocaaGreatRCopyC
import Derived.Laws.Rows
import Derived.Laws.Tables
import Derived.Laws.CopyOwn
import Derived.Test.YtkgihmhehkaocaaGreatRGauE
namespace Go.Proofs.YtkgihmhehkaocaaGreat
set_option linter.unusedVariables false
set_option linter.unusedSimpArgs false
set_option maxRecDepth 1000000
open Go.RowKit
open Um Tm

/-- four parts within a bound -/
structure B4 (x : Q) (m : Int) : Prop where
  a : -m ≤ x.a ∧ x.a ≤ m
  b : -m ≤ x.b ∧ x.b ≤ m
  c : -m ≤ x.c ∧ x.c ≤ m
  d : -m ≤ x.d ∧ x.d ≤ m
def dbl (x : Q) : Q := if x.n = 1 then ⟨2 * x.a, 2 * x.b, 2 * x.c, 2 * x.d, 2⟩ else ⟨x.a, x.b, x.c, x.d, 2⟩
theorem sm2_n {x : Q} (h : Sm2 x) : x.n = 1 ∨ x.n = 2 := by have := h.1.u.pos; have := h.2; omega
theorem dbl_bnd {x : Q} (h : Sm2 x) : B4 (dbl x) 2 := by
  obtain ⟨p1, p2, p3, p4, p5, p6, p7, p8⟩ := part_le x h.1.u
  unfold dbl
  rcases sm2_n h with e | e
  · rw [if_pos e]; exact ⟨by dsimp only; omega, by dsimp only; omega, by dsimp only; omega, by dsimp only; omega⟩
  · rw [if_neg (by omega)]; exact ⟨by dsimp only; omega, by dsimp only; omega, by dsimp only; omega, by dsimp only; omega⟩
set_option maxHeartbeats 800000 in
theorem gqDbl_any (x : Q) (w : World) (h : Sm2 x) : Calls Tryz.prog 59 #[.agg #[.int .i64 x.a, .int .i64 x.b, .int .i64 x.c, .int .i64 x.d, .int .i64 x.n]] w fun e w' => e = .returned (.agg #[.int .i64 (dbl x).a, .int .i64 (dbl x).b, .int .i64 (dbl x).c, .int .i64 (dbl x).d]) ∧ Below w.heap.size w w' := by
  obtain ⟨p1, p2, p3, p4, p5, p6, p7, p8⟩ := part_le x h.1.u
  have hn := sm2_n h
  have h2 := h.2
  clear h
  rcases hn with e | e
  · have e1 : (x.n == 0) = false := by simp; omega
    have hd : dbl x = ⟨2 * x.a, 2 * x.b, 2 * x.c, 2 * x.d, 2⟩ := if_pos e
    rw [hd]
    obtain ⟨a, b, c, d, n⟩ := x
    dsimp only at *
    subst e
    clear hd e1
    go_enter Tryz.func59, Tryz.ntmps59
    go_wp2
    refine bodyPost_ret (v := .agg #[.int .i64 (2 * a), .int .i64 (2 * b), .int .i64 (2 * c), .int .i64 (2 * d)]) ?_ rfl ⟨rfl, ?_⟩
    · simp [results, Tryz.results59, go_sem]
    · repeat (first | (with_reducible exact Below.refl _ _) | (with_reducible refine Below.setCell ?_ ?_ _) | (with_reducible refine Below.drew ?_) | (with_reducible refine Below.alloc ?_ ?_ _) | omega | (simp <;> omega))
  · have hd : dbl x = ⟨x.a, x.b, x.c, x.d, 2⟩ := if_neg (by omega)
    rw [hd]
    obtain ⟨a, b, c, d, n⟩ := x
    dsimp only at *
    subst e
    clear hd
    go_enter Tryz.func59, Tryz.ntmps59
    go_wp2
    refine bodyPost_ret (v := .agg #[.int .i64 a, .int .i64 b, .int .i64 c, .int .i64 d]) ?_ rfl ⟨rfl, ?_⟩
    · simp [results, Tryz.results59, go_sem]
    · repeat (first | (with_reducible exact Below.refl _ _) | (with_reducible refine Below.setCell ?_ ?_ _) | (with_reducible refine Below.drew ?_) | (with_reducible refine Below.alloc ?_ ?_ _) | omega | (simp <;> omega))
theorem mul_le2 {p q X Y : Int} (hX : 0 ≤ X) (hp : -X ≤ p ∧ p ≤ X) (hq : -Y ≤ q ∧ q ≤ Y) : -(X * Y) ≤ p * q ∧ p * q ≤ X * Y := by
  have h1 : (p * q).natAbs ≤ X.natAbs * Y.natAbs := by
    rw [Int.natAbs_mul]
    exact Nat.mul_le_mul (by omega) (by omega)
  have h2 : ((X.natAbs * Y.natAbs : Nat) : Int) = X * Y := by
    rw [Int.natCast_mul, Int.natAbs_of_nonneg (by omega), Int.natAbs_of_nonneg (by omega)]
  omega
set_option maxHeartbeats 1600000 in
theorem gqTimes_any (x y : Q) (w : World) (hx : B4 x 1000000) (hy : B4 y 1000000) : Calls Tryz.prog 94 #[.agg #[.int .i64 x.a, .int .i64 x.b, .int .i64 x.c, .int .i64 x.d], .agg #[.int .i64 y.a, .int .i64 y.b, .int .i64 y.c, .int .i64 y.d]] w fun e w' => e = .returned (.agg #[.int .i64 (mul x y).a, .int .i64 (mul x y).b, .int .i64 (mul x y).c, .int .i64 (mul x y).d]) ∧ Below w.heap.size w w' := by
  obtain ⟨aa1, aa2⟩ := mul_le2 (by decide) hx.a hy.a
  obtain ⟨ab1, ab2⟩ := mul_le2 (by decide) hx.a hy.b
  obtain ⟨ac1, ac2⟩ := mul_le2 (by decide) hx.a hy.c
  obtain ⟨ad1, ad2⟩ := mul_le2 (by decide) hx.a hy.d
  obtain ⟨ba1, ba2⟩ := mul_le2 (by decide) hx.b hy.a
  obtain ⟨bb1, bb2⟩ := mul_le2 (by decide) hx.b hy.b
  obtain ⟨bc1, bc2⟩ := mul_le2 (by decide) hx.b hy.c
  obtain ⟨bd1, bd2⟩ := mul_le2 (by decide) hx.b hy.d
  obtain ⟨ca1, ca2⟩ := mul_le2 (by decide) hx.c hy.a
  obtain ⟨cb1, cb2⟩ := mul_le2 (by decide) hx.c hy.b
  obtain ⟨cc1, cc2⟩ := mul_le2 (by decide) hx.c hy.c
  obtain ⟨cd1, cd2⟩ := mul_le2 (by decide) hx.c hy.d
  obtain ⟨da1, da2⟩ := mul_le2 (by decide) hx.d hy.a
  obtain ⟨db1, db2⟩ := mul_le2 (by decide) hx.d hy.b
  obtain ⟨dc1, dc2⟩ := mul_le2 (by decide) hx.d hy.c
  obtain ⟨dd1, dd2⟩ := mul_le2 (by decide) hx.d hy.d
  clear hx hy
  go_enter Tryz.func94, Tryz.ntmps94
  go_wp2
  refine bodyPost_ret (v := .agg #[.int .i64 (mul x y).a, .int .i64 (mul x y).b, .int .i64 (mul x y).c, .int .i64 (mul x y).d]) ?_ rfl ⟨rfl, ?_⟩
  · simp [results, Tryz.results94, go_sem, mul]
  · repeat (first | (with_reducible exact Below.refl _ _) | (with_reducible refine Below.setCell ?_ ?_ _) | (with_reducible refine Below.drew ?_) | (with_reducible refine Below.alloc ?_ ?_ _) | omega | (simp <;> omega))
/-- the sum of four products -/
def dot4 (x y : Q) : Int := x.a * y.a + x.b * y.b + x.c * y.c + x.d * y.d
set_option maxHeartbeats 1600000 in
theorem gqAt_any (x y : Q) (w : World) (hx : B4 x 1000000) (hy : B4 y 1000000) : Calls Tryz.prog 49 #[.agg #[.int .i64 x.a, .int .i64 x.b, .int .i64 x.c, .int .i64 x.d], .agg #[.int .i64 y.a, .int .i64 y.b, .int .i64 y.c, .int .i64 y.d]] w fun e w' => e = .returned (.int .i64 (dot4 x y)) ∧ Below w.heap.size w w' := by
  obtain ⟨aa1, aa2⟩ := mul_le2 (by decide) hx.a hy.a
  obtain ⟨bb1, bb2⟩ := mul_le2 (by decide) hx.b hy.b
  obtain ⟨cc1, cc2⟩ := mul_le2 (by decide) hx.c hy.c
  obtain ⟨dd1, dd2⟩ := mul_le2 (by decide) hx.d hy.d
  clear hx hy
  go_enter Tryz.func49, Tryz.ntmps49
  go_wp2
  go_ret
  exact ⟨by unfold dot4; rfl, by repeat (first | (with_reducible exact Below.refl _ _) | (with_reducible refine Below.setCell ?_ ?_ _) | (with_reducible refine Below.drew ?_) | (with_reducible refine Below.alloc ?_ ?_ _) | omega | (simp <;> omega))⟩
set_option maxHeartbeats 1600000 in
theorem gqCo_any (w : World) : Calls Tryz.prog 60 #[] w fun e w' => (∃ g, e = .returned (.slice (some ⟨g, 0, none⟩) 4 4) ∧ LiesI w' g 0 [1, 0, 0, 0, 0, 1, 0, 0, 0, 0, 1, 0, 0, 0, 0, 1] ∧ w.heap.size ≤ g) ∧ Below w.heap.size w w' := by
  go_enter Tryz.func60, Tryz.ntmps60
  go_wp2
  have hl : LiesI (w.alloc (.cells #[.int .i64 1, .int .i64 0, .int .i64 0, .int .i64 0, .int .i64 0, .int .i64 1, .int .i64 0, .int .i64 0, .int .i64 0, .int .i64 0, .int .i64 1, .int .i64 0, .int .i64 0, .int .i64 0, .int .i64 0, .int .i64 1] 65)) w.heap.size 0 [1, 0, 0, 0, 0, 1, 0, 0, 0, 0, 1, 0, 0, 0, 0, 1] := fun i x hx => by
    have hi : i < 16 := (List.getElem?_eq_some_iff.1 hx).1
    have h16 : i = 0 ∨ i = 1 ∨ i = 2 ∨ i = 3 ∨ i = 4 ∨ i = 5 ∨ i = 6 ∨ i = 7 ∨ i = 8 ∨ i = 9 ∨ i = 10 ∨ i = 11 ∨ i = 12 ∨ i = 13 ∨ i = 14 ∨ i = 15 := by omega
    have := Wide.cell_at (alloc_atG (w := w) (o := .cells #[.int .i64 1, .int .i64 0, .int .i64 0, .int .i64 0, .int .i64 0, .int .i64 1, .int .i64 0, .int .i64 0, .int .i64 0, .int .i64 0, .int .i64 1, .int .i64 0, .int .i64 0, .int .i64 0, .int .i64 0, .int .i64 1] 65)) i (.int .i64 x) (by
      rcases h16 with rfl | rfl | rfl | rfl | rfl | rfl | rfl | rfl | rfl | rfl | rfl | rfl | rfl | rfl | rfl | rfl <;> (simp at hx; subst hx; rfl))
    rw [Nat.zero_add]
    exact this
  have HL := Lib.hid hl
  clear hl
  go_ret
  exact ⟨⟨_, rfl, HL.out, Nat.le_refl _⟩, by repeat (first | (with_reducible exact Below.refl _ _) | (with_reducible refine Below.setCell ?_ ?_ _) | (with_reducible refine Below.drew ?_) | (with_reducible refine Below.alloc ?_ ?_ _) | omega | (simp <;> omega))⟩
end Go.Proofs.YtkgihmhehkaocaaGreat

/- The equations of certificates for two units, as the program makes them.
Conditions: those written at each theorem. -/
namespace Go.Proofs.YtkgihmhehkaocaaGreat
set_option linter.unusedVariables false
set_option linter.unusedSimpArgs false
set_option maxRecDepth 1000000
open Go.RowKit
open Um Tm

def un (i : Nat) : Q := ⟨if i = 0 then 1 else 0, if i = 1 then 1 else 0, if i = 2 then 1 else 0, if i = 3 then 1 else 0, 0⟩
def cmp (k : Nat) (x : Q) : Int := if k = 0 then x.a else if k = 1 then x.b else if k = 2 then x.c else x.d
def eqn (x y : Q) (k i : Nat) : Int := cmp k (mul (un i) x) - cmp k (mul y (un i))
def crF (x y : Q) (i k : Nat) : List Int := (List.range 16).map fun t => if t % 4 < i ∨ (t % 4 = i ∧ t / 4 < k) then eqn x y (t / 4) (t % 4) else 0
theorem crF_len (x y : Q) (i k : Nat) : (crF x y i k).length = 16 := by simp [crF]
theorem crF_set (x y : Q) {i k : Nat} (hi : i < 4) (hk : k < 4) : (crF x y i k).set (k * 4 + i) (eqn x y k i) = crF x y i (k + 1) := by
  apply List.ext_getElem?
  intro t
  rw [List.getElem?_set, crF_len]
  by_cases he : k * 4 + i = t
  · subst he
    rw [if_pos rfl, if_pos (by omega)]
    simp only [crF, List.getElem?_map, List.getElem?_range (show k * 4 + i < 16 by omega), Option.map_some]
    rw [show (k * 4 + i) % 4 = i by omega, show (k * 4 + i) / 4 = k by omega, if_pos (by omega)]
  · rw [if_neg he]
    by_cases h16 : t < 16
    · simp only [crF, List.getElem?_map, List.getElem?_range h16, Option.map_some]
      congr 1
      by_cases hc : t % 4 < i ∨ (t % 4 = i ∧ t / 4 < k)
      · rw [if_pos hc, if_pos (by omega)]
      · rw [if_neg hc, if_neg (by omega)]
    · rw [List.getElem?_eq_none (by rw [crF_len]; omega), List.getElem?_eq_none (by rw [crF_len]; omega)]
theorem crF_next (x y : Q) (i : Nat) : crF x y i 4 = crF x y (i + 1) 0 := by
  unfold crF
  apply List.map_congr_left
  intro t ht
  have := List.mem_range.1 ht
  by_cases hc : t % 4 < i ∨ (t % 4 = i ∧ t / 4 < 4)
  · rw [if_pos hc, if_pos (by omega)]
  · rw [if_neg hc, if_neg (by omega)]
theorem crF_zero (x y : Q) : crF x y 0 0 = List.replicate 16 0 := by
  apply List.ext_getElem?
  intro t
  by_cases h16 : t < 16
  · simp only [crF, List.getElem?_map, List.getElem?_range h16, Option.map_some]
    rw [if_neg (by omega), List.getElem?_replicate, if_pos h16]
  · rw [List.getElem?_eq_none (by rw [crF_len]; omega), List.getElem?_eq_none (by simp; omega)]
theorem un_bnd {i : Nat} : B4 (un i) 1 := by
  refine ⟨?_, ?_, ?_, ?_⟩ <;> (unfold un; dsimp only; split <;> decide)
theorem B4.le {x : Q} {m n : Int} (h : B4 x m) (hm : m ≤ n) : B4 x n := ⟨⟨by have := h.a; omega, by have := h.a; omega⟩, ⟨by have := h.b; omega, by have := h.b; omega⟩, ⟨by have := h.c; omega, by have := h.c; omega⟩, ⟨by have := h.d; omega, by have := h.d; omega⟩⟩
theorem cases4 {i : Nat} (h : i < 4) : i = 0 ∨ i = 1 ∨ i = 2 ∨ i = 3 := by omega
theorem mul_un {x : Q} {i k : Nat} (hx : B4 x 2) (hi : i < 4) (hk : k < 4) : (-2 ≤ cmp k (mul (un i) x) ∧ cmp k (mul (un i) x) ≤ 2) ∧ (-2 ≤ cmp k (mul x (un i)) ∧ cmp k (mul x (un i)) ≤ 2) := by
  obtain ⟨⟨a1, a2⟩, ⟨b1, b2⟩, ⟨c1, c2⟩, ⟨d1, d2⟩⟩ := hx
  rcases cases4 hi with rfl | rfl | rfl | rfl <;> rcases cases4 hk with rfl | rfl | rfl | rfl <;> (simp [cmp, mul, un]; omega)
def crds : List Int := [1, 0, 0, 0, 0, 1, 0, 0, 0, 0, 1, 0, 0, 0, 0, 1]
theorem crds_at {w : World} {cb i : Nat} (h : LiesI w cb 0 crds) (hi : i < 4) : w.cell? ⟨cb, i * 4, none⟩ = some (.int .i64 (un i).a) ∧ w.cell? ⟨cb, i * 4 + 1, none⟩ = some (.int .i64 (un i).b) ∧ w.cell? ⟨cb, i * 4 + 2, none⟩ = some (.int .i64 (un i).c) ∧ w.cell? ⟨cb, i * 4 + 3, none⟩ = some (.int .i64 (un i).d) := by
  have key : ∀ j v, crds[j]? = some v → w.cell? ⟨cb, j, none⟩ = some (.int .i64 v) := fun j v hj => by
    have := h j v hj
    rwa [Nat.zero_add] at this
  rcases cases4 hi with rfl | rfl | rfl | rfl
  · exact ⟨key 0 _ rfl, key 1 _ rfl, key 2 _ rfl, key 3 _ rfl⟩
  · exact ⟨key 4 _ rfl, key 5 _ rfl, key 6 _ rfl, key 7 _ rfl⟩
  · exact ⟨key 8 _ rfl, key 9 _ rfl, key 10 _ rfl, key 11 _ rfl⟩
  · exact ⟨key 12 _ rfl, key 13 _ rfl, key 14 _ rfl, key 15 _ rfl⟩
/-- what lies in memory while the equations are made -/
structure CRs (w W : World) (cb : Nat) (x y : Q) (l : List Int) : Prop where
  p : C4 W w.heap.size (.int .i64 x.a) (.int .i64 x.b) (.int .i64 x.c) (.int .i64 x.d)
  q : C4 W (w.heap.size + 1) (.int .i64 y.a) (.int .i64 y.b) (.int .i64 y.c) (.int .i64 y.d)
  r : ABx W (w.heap.size + 1 + 1) 99 ((List.replicate 16 0).map vi)
  f : ABx W (w.heap.size + 1 + 1 + 1) 99 (l.map vi)
  c : LiesI W cb 0 crds
  g : w.heap.size + 4 ≤ cb
  b : Below w.heap.size w W
theorem CRs.later {w W X : World} {cb : Nat} {x y : Q} {l : List Int} (h : CRs w W cb x y l) (hb : Below W.heap.size W X) : CRs w X cb x y l :=
  ⟨h.p.later hb, h.q.later hb, h.r.later hb, h.f.later hb, h.c.later hb, h.g, h.b.trans (hb.mono h.b.size)⟩
theorem C4.farG {w w1 : World} {b : Nat} {v0 v1 v2 v3 : Value} {row : Option Nat} (h : C4 w b v0 v1 v2 v3) (hg : w.grownBy w1 row) (hne : some b ≠ row) : C4 w1 b v0 v1 v2 v3 :=
  ⟨hg.cell h.c0 hne, hg.cell h.c1 hne, hg.cell h.c2 hne, hg.cell h.c3 hne, fun j => (World.frozen?_of_block (a := ⟨b, j, none⟩) (hg.block b h.lt hne)).trans (h.free j), Nat.lt_of_lt_of_le h.lt hg.size⟩
theorem CRs.put {w W : World} {cb : Nat} {x y : Q} {l : List Int} (h : CRs w W cb x y l) (j : Nat) (v : Int) : CRs w (W.setCell ⟨w.heap.size + 1 + 1 + 1, j, none⟩ (vi v)) cb x y (l.set j v) := by
  have G := grown_setCell W ⟨w.heap.size + 1 + 1 + 1, j, none⟩ (vi v)
  refine ⟨h.p.farG G (fun e => by have := Option.some.inj e; simp at this <;> omega), h.q.farG G (fun e => by have := Option.some.inj e; simp at this <;> omega), h.r.grown G (fun e => by have := Option.some.inj e; simp at this), ?_, fun i u hu => G.cell (h.c i u hu) (fun e => by have := Option.some.inj e; have := h.g; simp at *; omega), h.g, h.b.setCell (p := ⟨w.heap.size + 1 + 1 + 1, j, none⟩) (by show w.heap.size ≤ w.heap.size + 1 + 1 + 1; omega) _⟩
  rw [List.map_set]
  exact h.f.set j (vi v)
theorem lies4G {w : World} {b : Nat} {x0 x1 x2 x3 : Int} (h0 : w.cell? ⟨b, 0, none⟩ = some (.int .i64 x0)) (h1 : w.cell? ⟨b, 1, none⟩ = some (.int .i64 x1)) (h2 : w.cell? ⟨b, 2, none⟩ = some (.int .i64 x2)) (h3 : w.cell? ⟨b, 3, none⟩ = some (.int .i64 x3)) : ∀ k, k < 4 → w.cell? ⟨b, k, none⟩ = some (.int .i64 (cmp k ⟨x0, x1, x2, x3, 0⟩)) := fun k hk => by
  rcases cases4 hk with rfl | rfl | rfl | rfl
  · exact h0
  · exact h1
  · exact h2
  · exact h3
theorem infoE4 : (Tryz.prog.info? 99).map (·.size) = some 16 := by kernel_rfl
set_option maxHeartbeats 12800000 in
theorem carry_any (x y : Q) (w : World) (hx : B4 x 2) (hy : B4 y 2) : Calls Tryz.prog 58 #[.agg #[.int .i64 x.a, .int .i64 x.b, .int .i64 x.c, .int .i64 x.d], .agg #[.int .i64 y.a, .int .i64 y.b, .int .i64 y.c, .int .i64 y.d]] w fun e w' => e = .returned (.agg ((crF x y 4 0).map vi).toArray) ∧ Below w.heap.size w w' := by
  have cT1 : ∀ i, i < 4 → ∀ W : World, Calls Tryz.prog 94 #[.agg #[.int .i64 (un i).a, .int .i64 (un i).b, .int .i64 (un i).c, .int .i64 (un i).d], .agg #[.int .i64 x.a, .int .i64 x.b, .int .i64 x.c, .int .i64 x.d]] W fun e w' => e = .returned (.agg #[.int .i64 (mul (un i) x).a, .int .i64 (mul (un i) x).b, .int .i64 (mul (un i) x).c, .int .i64 (mul (un i) x).d]) ∧ Below W.heap.size W w' := fun i hi W => gqTimes_any (un i) x W (un_bnd.le (by decide)) (hx.le (by decide))
  have cT2 : ∀ i, i < 4 → ∀ W : World, Calls Tryz.prog 94 #[.agg #[.int .i64 y.a, .int .i64 y.b, .int .i64 y.c, .int .i64 y.d], .agg #[.int .i64 (un i).a, .int .i64 (un i).b, .int .i64 (un i).c, .int .i64 (un i).d]] W fun e w' => e = .returned (.agg #[.int .i64 (mul y (un i)).a, .int .i64 (mul y (un i)).b, .int .i64 (mul y (un i)).c, .int .i64 (mul y (un i)).d]) ∧ Below W.heap.size W w' := fun i hi W => gqTimes_any y (un i) W (hy.le (by decide)) (un_bnd.le (by decide))
  have HT1 := Lib.hid cT1
  have HT2 := Lib.hid cT2
  have HB : Hid (∀ i k, i < 4 → k < 4 → (-2 ≤ cmp k (mul (un i) x) ∧ cmp k (mul (un i) x) ≤ 2) ∧ (-2 ≤ cmp k (mul y (un i)) ∧ cmp k (mul y (un i)) ≤ 2)) := Lib.hid (fun i k hi hk => ⟨(mul_un hx hi hk).1, (mul_un hy hi hk).2⟩)
  have HZ := Lib.hid (crF_zero x y)
  clear hx hy cT1 cT2
  go_enter Tryz.func58, Tryz.ntmps58
  have z3 : ((w.alloc (.cells #[.int .i64 x.a, .int .i64 x.b, .int .i64 x.c, .int .i64 x.d] 65)).alloc (.cells #[.int .i64 y.a, .int .i64 y.b, .int .i64 y.c, .int .i64 y.d] 65)).heap.size = w.heap.size + 1 + 1 := by simp
  have z4 : (((w.alloc (.cells #[.int .i64 x.a, .int .i64 x.b, .int .i64 x.c, .int .i64 x.d] 65)).alloc (.cells #[.int .i64 y.a, .int .i64 y.b, .int .i64 y.c, .int .i64 y.d] 65)).alloc (.cells #[.int .i64 0, .int .i64 0, .int .i64 0, .int .i64 0, .int .i64 0, .int .i64 0, .int .i64 0, .int .i64 0, .int .i64 0, .int .i64 0, .int .i64 0, .int .i64 0, .int .i64 0, .int .i64 0, .int .i64 0, .int .i64 0] 99)).heap.size = w.heap.size + 1 + 1 + 1 := by simp
  have r3 : ABx (((w.alloc (.cells #[.int .i64 x.a, .int .i64 x.b, .int .i64 x.c, .int .i64 x.d] 65)).alloc (.cells #[.int .i64 y.a, .int .i64 y.b, .int .i64 y.c, .int .i64 y.d] 65)).alloc (.cells #[.int .i64 0, .int .i64 0, .int .i64 0, .int .i64 0, .int .i64 0, .int .i64 0, .int .i64 0, .int .i64 0, .int .i64 0, .int .i64 0, .int .i64 0, .int .i64 0, .int .i64 0, .int .i64 0, .int .i64 0, .int .i64 0] 99)) (w.heap.size + 1 + 1) 99 ((List.replicate 16 0).map vi) := by rw [← z3]; exact ABx.news _
  have r4 : ABx ((((w.alloc (.cells #[.int .i64 x.a, .int .i64 x.b, .int .i64 x.c, .int .i64 x.d] 65)).alloc (.cells #[.int .i64 y.a, .int .i64 y.b, .int .i64 y.c, .int .i64 y.d] 65)).alloc (.cells #[.int .i64 0, .int .i64 0, .int .i64 0, .int .i64 0, .int .i64 0, .int .i64 0, .int .i64 0, .int .i64 0, .int .i64 0, .int .i64 0, .int .i64 0, .int .i64 0, .int .i64 0, .int .i64 0, .int .i64 0, .int .i64 0] 99)).alloc (.cells #[.int .i64 0, .int .i64 0, .int .i64 0, .int .i64 0, .int .i64 0, .int .i64 0, .int .i64 0, .int .i64 0, .int .i64 0, .int .i64 0, .int .i64 0, .int .i64 0, .int .i64 0, .int .i64 0, .int .i64 0, .int .i64 0] 99)) (w.heap.size + 1 + 1 + 1) 99 ((List.replicate 16 0).map vi) := by rw [← z4]; exact ABx.news _
  have P3 : C4 (((w.alloc (.cells #[.int .i64 x.a, .int .i64 x.b, .int .i64 x.c, .int .i64 x.d] 65)).alloc (.cells #[.int .i64 y.a, .int .i64 y.b, .int .i64 y.c, .int .i64 y.d] 65)).alloc (.cells #[.int .i64 0, .int .i64 0, .int .i64 0, .int .i64 0, .int .i64 0, .int .i64 0, .int .i64 0, .int .i64 0, .int .i64 0, .int .i64 0, .int .i64 0, .int .i64 0, .int .i64 0, .int .i64 0, .int .i64 0, .int .i64 0] 99)) w.heap.size (.int .i64 x.a) (.int .i64 x.b) (.int .i64 x.c) (.int .i64 x.d) := C4.n3a
  have Q3 : C4 (((w.alloc (.cells #[.int .i64 x.a, .int .i64 x.b, .int .i64 x.c, .int .i64 x.d] 65)).alloc (.cells #[.int .i64 y.a, .int .i64 y.b, .int .i64 y.c, .int .i64 y.d] 65)).alloc (.cells #[.int .i64 0, .int .i64 0, .int .i64 0, .int .i64 0, .int .i64 0, .int .i64 0, .int .i64 0, .int .i64 0, .int .i64 0, .int .i64 0, .int .i64 0, .int .i64 0, .int .i64 0, .int .i64 0, .int .i64 0, .int .i64 0] 99)) (w.heap.size + 1) (.int .i64 y.a) (.int .i64 y.b) (.int .i64 y.c) (.int .i64 y.d) := C4.n3b
  have b4 : Below w.heap.size w ((((w.alloc (.cells #[.int .i64 x.a, .int .i64 x.b, .int .i64 x.c, .int .i64 x.d] 65)).alloc (.cells #[.int .i64 y.a, .int .i64 y.b, .int .i64 y.c, .int .i64 y.d] 65)).alloc (.cells #[.int .i64 0, .int .i64 0, .int .i64 0, .int .i64 0, .int .i64 0, .int .i64 0, .int .i64 0, .int .i64 0, .int .i64 0, .int .i64 0, .int .i64 0, .int .i64 0, .int .i64 0, .int .i64 0, .int .i64 0, .int .i64 0] 99)).alloc (.cells #[.int .i64 0, .int .i64 0, .int .i64 0, .int .i64 0, .int .i64 0, .int .i64 0, .int .i64 0, .int .i64 0, .int .i64 0, .int .i64 0, .int .i64 0, .int .i64 0, .int .i64 0, .int .i64 0, .int .i64 0, .int .i64 0] 99)) := ba3.trans (ba1.mono (by simp; omega))
  have s4 : ((((w.alloc (.cells #[.int .i64 x.a, .int .i64 x.b, .int .i64 x.c, .int .i64 x.d] 65)).alloc (.cells #[.int .i64 y.a, .int .i64 y.b, .int .i64 y.c, .int .i64 y.d] 65)).alloc (.cells #[.int .i64 0, .int .i64 0, .int .i64 0, .int .i64 0, .int .i64 0, .int .i64 0, .int .i64 0, .int .i64 0, .int .i64 0, .int .i64 0, .int .i64 0, .int .i64 0, .int .i64 0, .int .i64 0, .int .i64 0, .int .i64 0] 99)).alloc (.cells #[.int .i64 0, .int .i64 0, .int .i64 0, .int .i64 0, .int .i64 0, .int .i64 0, .int .i64 0, .int .i64 0, .int .i64 0, .int .i64 0, .int .i64 0, .int .i64 0, .int .i64 0, .int .i64 0, .int .i64 0, .int .i64 0] 99)).heap.size = w.heap.size + 4 := by simp
  have PP := Lib.hid P3
  have QQ := Lib.hid Q3
  have RR := Lib.hid r3
  have FF := Lib.hid r4
  have BB4 := Lib.hid b4
  have SS := Lib.hid s4
  clear z3 z4 r3 r4 P3 Q3 b4 s4
  go_wp2_with (fail)
  refine (gqCo_any _).mono ?_
  rintro e w1 ⟨⟨cb, rfl, hc, hcb⟩, hw1⟩
  have hcr : CRs w w1 cb x y (crF x y 0 0) := ⟨(PP.out.later ba1).later hw1, (QQ.out.later ba1).later hw1, (RR.out.later ba1).later hw1, by rw [HZ.out]; exact FF.out.later hw1, hc, by rw [← SS.out]; exact hcb, BB4.out.trans (hw1.mono BB4.out.size)⟩
  have HC0 := Lib.hid hcr
  clear hc hcb hw1 hcr PP QQ RR FF BB4 SS HZ
  go_wp2
  go_loopw [6, 7, 8, 9, 10, 13, 24] (fun _ _ _ _ _ q _ wr => ∃ i : Nat, i ≤ 4 ∧ q = .int .i64 i ∧ Hid (CRs w wr cb x y (crF x y i 0))) (fun _ _ _ _ _ q _ _ => 4 - (intOf q).toNat)
  case atStart => exact ⟨0, by omega, rfl, HC0⟩
  case round =>
    obtain ⟨i, hi, rfl, HC⟩ := hrel
    clear HC0
    by_cases hlt : i < 4
    · obtain ⟨q0, q1, q2, q3⟩ := crds_at HC.out.c hlt
      have lcb := World.block_lt_of_cell? _ _ q0
      have ii : (i : Int) < 4 := by omega
      have c1 := HT1.out i hlt
      have c2 := HT2.out i hlt
      have HBi := Lib.hid (fun k hk => HB.out i k hlt hk)
      generalize hL : mul (un i) x = l at *
      generalize hR : mul y (un i) = r at *
      have HE : Hid (∀ k, eqn x y k i = cmp k l - cmp k r) := Lib.hid (fun k => by unfold eqn; rw [hL, hR])
      clear hL hR
      generalize un i = u at *
      have HC2 := Lib.hid (HC.out.later (ba1 (o := .cells #[.int .i64 u.a, .int .i64 u.b, .int .i64 u.c, .int .i64 u.d] 65)))
      have U2 := Lib.hid (C4.n1 (w := wr) (v0 := .int .i64 u.a) (v1 := .int .i64 u.b) (v2 := .int .i64 u.c) (v3 := .int .i64 u.d) (T := 65))
      go_wp2_with (fail)
      obtain ⟨u0, u1, u2, u3, uf, ul⟩ := U2.out
      obtain ⟨p0, p1, p2, p3, pf, pl⟩ := HC2.out.p
      obtain ⟨y0, y1, y2, y3, yf, yl⟩ := HC2.out.q
      have OA : Hid (Below wr.heap.size wr (wr.alloc (.cells #[.int .i64 u.a, .int .i64 u.b, .int .i64 u.c, .int .i64 u.d] 65))) := Lib.hid ba1
      generalize hX : wr.alloc (.cells #[.int .i64 u.a, .int .i64 u.b, .int .i64 u.c, .int .i64 u.d] 65) = X at *
      clear hX q0 q1 q2 q3
      apply Wide.region_two 6 (.cells #[.int .i64 0, .int .i64 0, .int .i64 0, .int .i64 0] 65) (.cells #[.int .i64 0, .int .i64 0, .int .i64 0, .int .i64 0] 65) (some 8) (some 9) (by kernel_rfl) (by kernel_rfl) (by kernel_rfl) ⟨_, rfl, rfl, fun a W => ⟨rfl, by simp [go_sem]⟩⟩ ⟨_, rfl, rfl, fun a W => ⟨rfl, by simp [go_sem]⟩⟩
      · intro B hB
        have kc := @Tail.cell_re
        have hcB := Tail.cells hB
        have zB0 := Nat.lt_of_lt_of_le ul hB.size
        have zB1 := Nat.lt_of_lt_of_le pl hB.size
        have zB2 := Nat.lt_of_lt_of_le yl hB.size
        simp only [List.take_succ_cons, List.take_zero]
        repeat (go_big_quiet_step (first | (with_reducible exact Calls.regrown_of (c1 _)) | (with_reducible exact Calls.regrown_of (c2 _))))
        exact wpQuiet_nil rfl
      · intro b c w2 hb hcc hbc hw2 hx2 hy2
        simp only [List.drop_succ_cons, List.drop_zero]
        have k0 := Wide.cell_at hx2 0 _ rfl
        have k1 := Wide.cell_at hx2 1 _ rfl
        have k2 := Wide.cell_at hx2 2 _ rfl
        have k3 := Wide.cell_at hx2 3 _ rfl
        have f := Wide.free_at hx2
        have m0 := Wide.cell_at hy2 0 _ rfl
        have m1 := Wide.cell_at hy2 1 _ rfl
        have m2 := Wide.cell_at hy2 2 _ rfl
        have m3 := Wide.cell_at hy2 3 _ rfl
        have f' := Wide.free_at hy2
        have hbc' : b ≠ c := fun h => hbc h.symm
        have hCW := HC2.out.later hw2
        have GB := hw2.grown (grown_setCells b [.int .i64 l.a, .int .i64 l.b, .int .i64 l.c, .int .i64 l.d] 0 w2) hw2.size (fun j e => by cases e; exact hb)
        have GC := GB.grown (grown_setCells c [.int .i64 r.a, .int .i64 r.b, .int .i64 r.c, .int .i64 r.d] 0 (w2.setCells b 0 [.int .i64 l.a, .int .i64 l.b, .int .i64 l.c, .int .i64 l.d])) GB.size (fun j e => by cases e; exact hcc)
        change Below X.heap.size X ((((((((w2.setCell ⟨b, 0, none⟩ (.int .i64 l.a)).setCell ⟨b, 1, none⟩ (.int .i64 l.b)).setCell ⟨b, 2, none⟩ (.int .i64 l.c)).setCell ⟨b, 3, none⟩ (.int .i64 l.d)).setCell ⟨c, 0, none⟩ (.int .i64 r.a)).setCell ⟨c, 1, none⟩ (.int .i64 r.b)).setCell ⟨c, 2, none⟩ (.int .i64 r.c)).setCell ⟨c, 3, none⟩ (.int .i64 r.d)) at GC
        have HY := Lib.hid (HC2.out.later GC)
        clear hx2 hy2 hw2 c1 c2 u0 u1 u2 u3 uf ul p0 p1 p2 p3 pf pl y0 y1 y2 y3 yf yl hCW GB GC
        have LL : Hid (∀ k, k < 4 → ((((((((w2.setCell ⟨b, 0, none⟩ (.int .i64 l.a)).setCell ⟨b, 1, none⟩ (.int .i64 l.b)).setCell ⟨b, 2, none⟩ (.int .i64 l.c)).setCell ⟨b, 3, none⟩ (.int .i64 l.d)).setCell ⟨c, 0, none⟩ (.int .i64 r.a)).setCell ⟨c, 1, none⟩ (.int .i64 r.b)).setCell ⟨c, 2, none⟩ (.int .i64 r.c)).setCell ⟨c, 3, none⟩ (.int .i64 r.d)).cell? ⟨b, k, none⟩ = some (.int .i64 (cmp k l))) := Lib.hid (lies4G (x0 := l.a) (x1 := l.b) (x2 := l.c) (x3 := l.d) (by simp [go_sem, k0, k1, k2, k3, hbc, hbc']) (by simp [go_sem, k0, k1, k2, k3, hbc, hbc']) (by simp [go_sem, k0, k1, k2, k3, hbc, hbc']) (by simp [go_sem, k0, k1, k2, k3, hbc, hbc']))
        have LR : Hid (∀ k, k < 4 → ((((((((w2.setCell ⟨b, 0, none⟩ (.int .i64 l.a)).setCell ⟨b, 1, none⟩ (.int .i64 l.b)).setCell ⟨b, 2, none⟩ (.int .i64 l.c)).setCell ⟨b, 3, none⟩ (.int .i64 l.d)).setCell ⟨c, 0, none⟩ (.int .i64 r.a)).setCell ⟨c, 1, none⟩ (.int .i64 r.b)).setCell ⟨c, 2, none⟩ (.int .i64 r.c)).setCell ⟨c, 3, none⟩ (.int .i64 r.d)).cell? ⟨c, k, none⟩ = some (.int .i64 (cmp k r))) := Lib.hid (lies4G (x0 := r.a) (x1 := r.b) (x2 := r.c) (x3 := r.d) (by simp [go_sem, m0, m1, m2, m3, hbc, hbc']) (by simp [go_sem, m0, m1, m2, m3, hbc, hbc']) (by simp [go_sem, m0, m1, m2, m3, hbc, hbc']) (by simp [go_sem, m0, m1, m2, m3, hbc, hbc']))
        go_wp2
        clear k0 k1 k2 k3 m0 m1 m2 m3 f f'
        generalize (((((((w2.setCell ⟨b, 0, none⟩ (.int .i64 l.a)).setCell ⟨b, 1, none⟩ (.int .i64 l.b)).setCell ⟨b, 2, none⟩ (.int .i64 l.c)).setCell ⟨b, 3, none⟩ (.int .i64 l.d)).setCell ⟨c, 0, none⟩ (.int .i64 r.a)).setCell ⟨c, 1, none⟩ (.int .i64 r.b)).setCell ⟨c, 2, none⟩ (.int .i64 r.c)).setCell ⟨c, 3, none⟩ (.int .i64 r.d) = Y at *
        have fb : w.heap.size + 1 + 1 + 1 < b := Nat.lt_of_lt_of_le HC2.out.f.lt hb
        have fc : w.heap.size + 1 + 1 + 1 < c := Nat.lt_of_lt_of_le HC2.out.f.lt hcc
        clear HC HC2 U2 OA hb hcc hbc hbc'
        obtain ⟨wo, hwo⟩ : ∃ z, z = wr := ⟨_, rfl⟩
        subst hwo
        go_loopw [10, 24] (fun _ q wr => ∃ k : Nat, k ≤ 4 ∧ q = .int .i64 k ∧ Hid (CRs w wr cb x y (crF x y i k)) ∧ Hid (∀ k, k < 4 → wr.cell? ⟨b, k, none⟩ = some (.int .i64 (cmp k l))) ∧ Hid (∀ k, k < 4 → wr.cell? ⟨c, k, none⟩ = some (.int .i64 (cmp k r)))) (fun _ q _ => 4 - (intOf q).toNat)
        case atStart => exact ⟨0, by omega, rfl, HY, LL, LR⟩
        case round =>
          obtain ⟨k, hk, rfl, HC, HL, HR⟩ := hrel
          clear HY LL LR
          by_cases hkt : k < 4
          · have e0 := HL.out k hkt
            have g0 := HR.out k hkt
            obtain ⟨⟨w0, w1'⟩, w2', w3⟩ := HBi.out k hkt
            have lb1 := World.block_lt_of_cell? _ _ e0
            have lb2 := World.block_lt_of_cell? _ _ g0
            have ik : (k : Int) < 4 := by omega
            have hE := HE.out k
            have HSET := Lib.hid (crF_set x y hlt hkt)
            rw [hE] at HSET
            generalize cmp k l = lv at *
            generalize cmp k r = rv at *
            have ew : IntKind.i64.wrap (lv - rv) = lv - rv := IntWalk.i64_in _ (by omega)
            clear hE
            go_wp2
            refine Tail.region_tail_below 11 (by kernel_rfl) (by kernel_rfl) ?_
            have kc := @Tail.cell_re
            simp only [List.take_succ_cons, List.take_zero, List.drop_succ_cons, List.drop_zero]
            repeat (go_big_quiet_step (fail))
            refine wpQuiet_nil ?_
            intro w5 hw5
            have H5 := Lib.hid (HC.out.later hw5)
            have L5 := Lib.hid (fun j hj => held_belowG hw5 (HL.out j hj))
            have R5 := Lib.hid (fun j hj => held_belowG hw5 (HR.out j hj))
            have s0 := H5.out.f.cell (k * 4 + i)
            have sf := H5.out.f.free (k * 4 + i)
            have sl := H5.out.f.lt
            rw [List.getElem?_map, List.getElem?_eq_getElem (show k * 4 + i < (crF x y i k).length by rw [crF_len]; omega), Option.map_some] at s0
            generalize (crF x y i k)[k * 4 + i]'(show k * 4 + i < (crF x y i k).length by rw [crF_len]; omega) = old at *
            have hp := H5.out.put (k * 4 + i) (lv - rv)
            rw [HSET.out] at hp
            have HP := Lib.hid hp
            have GG := grown_setCell w5 ⟨w.heap.size + 1 + 1 + 1, k * 4 + i, none⟩ (vi (lv - rv))
            have nb : some b ≠ some (w.heap.size + 1 + 1 + 1) := fun e => by have := Option.some.inj e; omega
            have nc : some c ≠ some (w.heap.size + 1 + 1 + 1) := fun e => by have := Option.some.inj e; omega
            have L6 := Lib.hid (fun j hj => GG.cell (L5.out j hj) nb)
            have R6 := Lib.hid (fun j hj => GG.cell (R5.out j hj) nc)
            clear hw5 hp HC HL HR e0 g0 lb1 lb2 GG H5 L5 R5 HSET
            go_wp2
            exact ⟨⟨k + 1, by omega, by go_num, HP, L6, R6⟩, by simp [intOf]; omega⟩
          · obtain rfl : k = 4 := by omega
            have hn := HC.out
            rw [crF_next] at hn
            have HN := Lib.hid hn
            clear hn HC
            go_wp2
            exact ⟨⟨i + 1, by omega, by go_num, HN⟩, by simp [intOf]; omega⟩
    · obtain rfl : i = 4 := by omega
      have fh := HC.out.f.h
      have rh := HC.out.r.h
      have hl : ((crF x y 4 0).map vi).toArray.size = 16 := by simp [crF_len]
      have FH := Lib.hid fh
      have RH := Lib.hid rh
      have HSZ : Hid ((Tryz.prog.info? 99).map (·.size) = some ((crF x y 4 0).map vi).toArray.size) := Lib.hid (by rw [hl]; exact infoE4)
      have HZS : Hid (((List.replicate 16 (0 : Int)).map vi).toArray.size = ((crF x y 4 0).map vi).toArray.size) := Lib.hid (by rw [hl]; rfl)
      have HONE : Hid (((crF x y 4 0).map vi).toArray.all (·.oneCell') = true) := Lib.hid (by simp [vi]; intro z _; rfl)
      clear fh rh hl
      generalize hA : ((crF x y 4 0).map vi).toArray = A at *
      generalize hZZ : ((List.replicate 16 (0 : Int)).map vi).toArray = ZZ at *
      clear hZZ
      have HA := Lib.hid hA
      clear hA
      go_wp2_with (first | (refine wpList_load_row rfl 99 (.tmp 5) rfl (w.heap.size + 1 + 1 + 1) rfl 99 A (0, 0) _ FH.out Tryz.underlying99 rfl HSZ.out ?_) | (refine wpList_store_row rfl 99 (.tmp 4) (.tmp 40) rfl (w.heap.size + 1 + 1) A rfl rfl 99 ZZ RH.out HSZ.out HZS.out HONE.out ?_))
      have hh := setRow_heap wr (w.heap.size + 1 + 1) ZZ A 99 (0, 0) RH.out
      refine bodyPost_ret (v := .agg A) ?_ rfl ⟨by rw [HA.out], below_setRow HC.out.b (by omega) _⟩
      simp [results, Tryz.results58, asAddr, Act.put, run_loadVar_row _ _ _ _ _ _ _ hh Tryz.underlying99 rfl HSZ.out]
end Go.Proofs.YtkgihmhehkaocaaGreat

/- The equations of the certificates for two fields, as the program makes them.
Conditions: those written at each theorem. -/
namespace Go.Proofs.YtkgihmhehkaocaaGreat
set_option linter.unusedVariables false
set_option linter.unusedSimpArgs false
set_option maxRecDepth 1000000
open Go.RowKit
open Um Tm

def eqL (X Y : List Q) : Nat → List Int
  | 0 => []
  | n + 1 => eqL X Y n ++ crF (dbl (lk X n)) (dbl (lk Y n)) 4 0
theorem eqL_len (X Y : List Q) (n : Nat) : (eqL X Y n).length = n * 16 := by
  induction n with
  | zero => rfl
  | succ n ih => rw [eqL, List.length_append, ih, crF_len]; omega
theorem infoEq : (Tryz.prog.info? 90).map (fun i => (i.zero, i.size, i.bytes)) = some (some (.agg #[.int .i64 0, .int .i64 0, .int .i64 0, .int .i64 0]), 4, 32) := by kernel_rfl
theorem lpK_len_eq (S T : List Q) (tr : List Int) (k : Nat) : (lpK S tr k).length = (lpK T tr k).length := by
  induction k with
  | zero => rfl
  | succ k ih =>
    unfold lpK
    split
    · exact ih
    · simp [ih]
theorem owned_formG {w : World} {base sz : Nat} {T : TypeId} {v : Value} {n : Nat} {xs : List Value} (h : w.ownsRow base T sz v n xs) : ∃ ao cap, v = .slice ao n cap := by
  rcases h.2 with ⟨h', h0⟩ | ⟨g', cap', cur, h', hb, hg, _⟩
  · exact ⟨none, 0, by rw [h', h0]⟩
  · exact ⟨_, _, h'⟩
set_option maxHeartbeats 12800000 in
theorem gaBw_ok (a b c : Int) (bl off bl' off' cap cap' N : Nat) (L M : List Q) (ms ns : List Int) (w : World) (h : Lies w bl off L) (h' : Lies w bl' off' M) (hF : fldR a b c L 0) (hF' : fldR a b c M 0) (hS : smR L ms true) (hS' : smR M ns true) (hN : (N : Int) = a * b * c) : Calls Tryz.prog 28 #[.agg #[.int .i64 a, .int .i64 b, .int .i64 c, .slice (some ⟨bl, off, none⟩) L.length cap], .agg #[.int .i64 a, .int .i64 b, .int .i64 c, .slice (some ⟨bl', off', none⟩) M.length cap']] w fun e w' => (∃ B v, e = .returned (.tuple #[v, .int .i64 0]) ∧ w'.ownsRow B 90 4 v ((lpL a b c N L).length * 4) ((eqL (lpL a b c N L) (lpL a b c N M) (lpL a b c N L).length).map vi)) ∧ Below w.heap.size w w' := by
  have hz := (fldR_ok hF).1
  have hn := (fldR_ok hF).2.1
  have hn' := (fldR_ok hF').2.1
  have hp16 := hz.p
  have hr : prR a b c L ms a b c M ns 0 := .inr (.inr ⟨hF, hF', true, true, hS, hS', by simp⟩)
  have hA := AllS.num hS
  have hA' := AllS.num hS'
  have hFl : Fl a b c L := ⟨(fldR_ok hF).1, (fldR_ok hF).2.1, (fldR_ok hF).2.2⟩
  have hFl' : Fl a b c M := ⟨(fldR_ok hF').1, (fldR_ok hF').2.1, (fldR_ok hF').2.2⟩
  have c1 := fun (W : World) (g : Nat) (hf : F2 W g a b c (.slice (some ⟨bl, off, none⟩) L.length cap) a b c (.slice (some ⟨bl', off', none⟩) M.length cap')) (h : LiesO W (some ⟨bl, off, none⟩) L) (h' : LiesO W (some ⟨bl', off', none⟩) M) => ckS2_any a b c a b c 0 g (some ⟨bl, off, none⟩) (some ⟨bl', off', none⟩) cap cap' L M ms ns W hf h h' hr (by omega) (by omega)
  have c2 := fun (W : World) (h : Lies W bl off L) => gaLp_ok a b c bl off cap N L ms W h hF hA (.inr ⟨hF, .inl ⟨hS, rfl⟩⟩) hN
  have c3 := fun (W : World) (h : Lies W bl' off' M) => gaLp_ok a b c bl' off' cap' N M ns W h hF' hA' (.inr ⟨hF', .inl ⟨hS', rfl⟩⟩) hN
  have qx := eqA3 a b c
  have hX : AllS (lpL a b c N L) := lpK_all _ (fxL_all hFl hA hN) _ (by rw [fxL_len]; exact Nat.le_refl _)
  have hY : AllS (lpL a b c N M) := lpK_all _ (fxL_all hFl' hA' hN) _ (by rw [fxL_len]; exact Nat.le_refl _)
  have hLM : L.length = M.length := by omega
  have hXl : (lpL a b c N L).length ≤ 48 := Nat.le_trans (lpK_len _ _ _) (by omega)
  have hYl : (lpL a b c N M).length = (lpL a b c N L).length := by unfold lpL; rw [hLM]; exact lpK_len_eq _ _ _ _
  clear hLM
  have H := Lib.hid h
  have H' := Lib.hid h'
  obtain ⟨i0, hi, hz0, hz1, hz2⟩ := info_parts infoEq
  clear h h' hF hF' hS hS' hN hz hn hn' hp16 hr hA hA' hFl hFl'
  generalize lpL a b c N L = X at *
  generalize lpL a b c N M = Y at *
  have cK : ∀ k, k < X.length → ∃ x y p q : Q, X[k]? = some x ∧ Y[k]? = some y ∧ (∀ W : World, Calls Tryz.prog 59 #[.agg #[.int .i64 x.a, .int .i64 x.b, .int .i64 x.c, .int .i64 x.d, .int .i64 x.n]] W fun e w' => e = .returned (.agg #[.int .i64 p.a, .int .i64 p.b, .int .i64 p.c, .int .i64 p.d]) ∧ Below W.heap.size W w') ∧ (∀ W : World, Calls Tryz.prog 59 #[.agg #[.int .i64 y.a, .int .i64 y.b, .int .i64 y.c, .int .i64 y.d, .int .i64 y.n]] W fun e w' => e = .returned (.agg #[.int .i64 q.a, .int .i64 q.b, .int .i64 q.c, .int .i64 q.d]) ∧ Below W.heap.size W w') ∧ (∀ W : World, Calls Tryz.prog 58 #[.agg #[.int .i64 p.a, .int .i64 p.b, .int .i64 p.c, .int .i64 p.d], .agg #[.int .i64 q.a, .int .i64 q.b, .int .i64 q.c, .int .i64 q.d]] W fun e w' => e = .returned (.agg ((crF p q 4 0).map vi).toArray) ∧ Below W.heap.size W w') ∧ eqL X Y (k + 1) = eqL X Y k ++ crF p q 4 0 := fun k hk => by
    have hx := lk_at (L := X) (i := k) hk
    have hy := lk_at (L := Y) (i := k) (by omega)
    exact ⟨_, _, dbl (lk X k), dbl (lk Y k), hx, hy, fun W => gqDbl_any _ W (hX _ _ hx), fun W => gqDbl_any _ W (hY _ _ hy), fun W => carry_any _ _ W (dbl_bnd (hX _ _ hx)) (dbl_bnd (hY _ _ hy)), rfl⟩
  have HK := Lib.hid cK
  have HYl := Lib.hid hYl
  clear cK hX hY hYl
  go_enter Tryz.func28, Tryz.ntmps28
  have F0 := Lib.hid (FW.n3a (w := w) (x := a) (y := b) (z := c) (v := .slice (some ⟨bl, off, none⟩) L.length cap) (T := 25) (o := .cells #[.int .i64 a, .int .i64 b, .int .i64 c, .slice (some ⟨bl', off', none⟩) M.length cap'] 25) (p := .cells #[.int .i64 a, .int .i64 b, .int .i64 c, .slice (some ⟨bl, off, none⟩) L.length cap, .int .i64 a, .int .i64 b, .int .i64 c, .slice (some ⟨bl', off', none⟩) M.length cap'] 25))
  have G0 := Lib.hid (FW.n3b (w := w) (x := a) (y := b) (z := c) (v := .slice (some ⟨bl', off', none⟩) M.length cap') (T := 25) (o := .cells #[.int .i64 a, .int .i64 b, .int .i64 c, .slice (some ⟨bl, off, none⟩) L.length cap] 25) (p := .cells #[.int .i64 a, .int .i64 b, .int .i64 c, .slice (some ⟨bl, off, none⟩) L.length cap, .int .i64 a, .int .i64 b, .int .i64 c, .slice (some ⟨bl', off', none⟩) M.length cap'] 25))
  go_wp2_with (fail)
  refine (c1 _ _ ⟨by simp [go_sem], by simp [go_sem], by simp [go_sem], by simp [go_sem], by simp [go_sem], by simp [go_sem], by simp [go_sem], by simp [go_sem]⟩ (.inr ⟨_, _, rfl, H.out.later ba3⟩) (.inr ⟨_, _, rfl, H'.out.later ba3⟩)).mono ?_
  rintro e w1 ⟨rfl, hw1⟩
  have b1 := bel3 hw1
  have F1 := Lib.hid (F0.out.later hw1)
  have G1 := Lib.hid (G0.out.later hw1)
  clear c1 F0 G0 hw1
  obtain ⟨f0, f1, f2, f3, ff, fl⟩ := F1.out
  obtain ⟨g0, g1, g2, g3, gf, gl⟩ := G1.out
  go_wp2_with (fail)
  refine (c2 _ (H.out.later b1)).mono ?_
  rintro e w2 ⟨⟨xo, xk, rfl, hx⟩, hw2⟩
  have HX := Lib.hid hx
  have G2 := Lib.hid (G1.out.later hw2)
  have b2 := b1.trans (hw2.mono b1.size)
  clear c2 F1 G1 hw2 f0 f1 f2 f3 ff fl g0 g1 g2 g3 gf gl hx b1
  obtain ⟨g0, g1, g2, g3, gf, gl⟩ := G2.out
  go_wp2_with (fail)
  refine (c3 _ (H'.out.later b2)).mono ?_
  rintro e w3 ⟨⟨yo, yk, rfl, hy⟩, hw3⟩
  have HX3 := Lib.hid (HX.out.later hw3)
  have HY3 := Lib.hid hy
  have b3 := b2.trans (hw3.mono b2.size)
  clear c3 G2 hw3 g0 g1 g2 g3 gf gl hy b2 HX qx
  go_wp2
  have b3s := b3.size
  generalize hB : w3.heap.size = B at *
  have HBe := Lib.hid hB
  have HW0 : Hid (Below B w3 w3) := Lib.hid (by rw [← HBe.out]; exact Below.refl _ _)
  clear hB
  go_loopw [10, 11, 12, 43] (fun v _ _ q wr => ∃ k : Nat, k ≤ X.length ∧ q = .int .i64 k ∧ Hid (wr.ownsRow B 90 4 v (k * 4) ((eqL X Y k).map vi)) ∧ Hid (Below B w3 wr)) (fun _ _ _ q _ => X.length - (intOf q).toNat)
  case atStart => exact ⟨0, by omega, rfl, Lib.hid (World.ownsRow_nil _ _ _ _), HW0⟩
  case round =>
    obtain ⟨k, hk, rfl, hown, hw⟩ := hrel
    clear HW0
    obtain ⟨ro, rc, rfl⟩ := owned_formG hown.out
    by_cases hlt : k < X.length
    · obtain ⟨x, y, p, q, hx, hy, cD, cE, cC, hE⟩ := HK.out k hlt
      have hwB : Below w3.heap.size w3 wr := by rw [HBe.out]; exact hw.out
      obtain ⟨xb, xf, rfl, hxl⟩ : ∃ b f, xo = some ⟨b, f, none⟩ ∧ Lies w3 b f X := by
        rcases HX3.out with h | h
        · rw [h] at hlt; exact absurd hlt (by simp)
        · exact h
      obtain ⟨yb, yf, rfl, hyl⟩ : ∃ b f, yo = some ⟨b, f, none⟩ ∧ Lies w3 b f Y := by
        rcases HY3.out with h | h
        · have := HYl.out; rw [h] at this; rw [← this] at hlt; exact absurd hlt (by simp)
        · exact h
      obtain ⟨l0, l1, l2, l3, l4⟩ := (hxl.later hwB) _ _ hx
      obtain ⟨m0, m1, m2, m3, m4⟩ := (hyl.later hwB) _ _ hy
      have lb1 := World.block_lt_of_cell? _ _ l0
      have lb2 := World.block_lt_of_cell? _ _ m0
      have ik : (k : Int) < (X.length : Int) := by omega
      have iy : (k : Int) < (Y.length : Int) := by have := HYl.out; omega
      have hl : ((crF p q 4 0).map vi).toArray.size = 16 := by simp [crF_len]
      have HSZ : Hid ((Tryz.prog.info? 99).map (·.size) = some ((crF p q 4 0).map vi).toArray.size) := Lib.hid (by rw [hl]; exact infoE4)
      have HONE : Hid (((crF p q 4 0).map vi).toArray.all (·.oneCell') = true) := Lib.hid (by simp [vi]; intro z _; rfl)
      have HLE := Lib.hid (crF_len p q 4 0)
      have HE := Lib.hid hE
      have HONES : Hid (∀ u ∈ (crF p q 4 0).map vi, u.oneCell' = true) := Lib.hid (fun u hu => by obtain ⟨z, -, rfl⟩ := List.mem_map.1 hu; rfl)
      generalize hA : ((crF p q 4 0).map vi).toArray = A at *
      have HA := Lib.hid hA
      have HAS := Lib.hid hl
      clear hx hy hE hwB hxl hyl hA hl
      go_wp2
      apply Wide.region_one 11 (.cells #[.int .i64 0, .int .i64 0, .int .i64 0, .int .i64 0, .int .i64 0, .int .i64 0, .int .i64 0, .int .i64 0, .int .i64 0, .int .i64 0, .int .i64 0, .int .i64 0, .int .i64 0, .int .i64 0, .int .i64 0, .int .i64 0] 99) (some 12) (by kernel_rfl) (by kernel_rfl) (by kernel_rfl) ⟨_, rfl, rfl, fun a W => ⟨rfl, by simp [go_sem]⟩⟩
      · intro B0 hB
        have kc := @Tail.cell_re
        have hcB := Tail.cells hB
        have zB0 := Nat.lt_of_lt_of_le lb1 hB.size
        have zB1 := Nat.lt_of_lt_of_le lb2 hB.size
        simp only [List.take_succ_cons, List.take_zero]
        repeat (go_big_quiet_step (first | (with_reducible exact Calls.regrown_of (cD _)) | (with_reducible exact Calls.regrown_of (cE _)) | (with_reducible exact Calls.regrown_of (cC _))))
        exact wpQuiet_nil rfl
      · intro g4 w4 hg4 hw4 hx4
        simp only [List.drop_succ_cons, List.drop_zero]
        have hh := setRow_heap w4 g4 #[.int .i64 0, .int .i64 0, .int .i64 0, .int .i64 0, .int .i64 0, .int .i64 0, .int .i64 0, .int .i64 0, .int .i64 0, .int .i64 0, .int .i64 0, .int .i64 0, .int .i64 0, .int .i64 0, .int .i64 0, .int .i64 0] A 99 (0, 0) hx4
        have BW : Below wr.heap.size wr (w4.setRow g4 A) := below_setRow hw4 hg4 A
        have O5 := Lib.hid (owned_later hown.out BW)
        have W5 := Lib.hid (hw.out.trans (BW.mono (by have := hw.out.size; rw [HBe.out] at this; exact this)))
        have HX4 := Lib.hid hx4
        have HZ4 : Hid ((#[.int .i64 0, .int .i64 0, .int .i64 0, .int .i64 0, .int .i64 0, .int .i64 0, .int .i64 0, .int .i64 0, .int .i64 0, .int .i64 0, .int .i64 0, .int .i64 0, .int .i64 0, .int .i64 0, .int .i64 0, .int .i64 0] : Array Value).size = A.size) := Lib.hid (by rw [HAS.out]; rfl)
        have hnews : ∀ j u, ((crF p q 4 0).map vi)[j]? = some u → (w4.setRow g4 A).cell? (Addr.add ⟨g4, 0, none⟩ j) = some u := fun j u hj => by
          have hadd : (⟨g4, 0, none⟩ : Addr).add j = ⟨g4, j, none⟩ := by
            unfold Addr.add
            split
            · rename_i h0; subst h0; rfl
            · simp
          rw [hadd]
          rw [← HA.out] at hh ⊢
          simp [World.cell?, hh] at hj ⊢
          exact hj
        have HN := Lib.hid hnews
        have bws := BW.size
        have hwsz := hw.out.size
        rw [HBe.out] at hwsz
        have hgl : g4 < (w4.setRow g4 A).heap.size := (Array.getElem?_eq_some_iff.1 hh).1
        clear hx4 hw4 hh BW hnews l0 l1 l2 l3 l4 m0 m1 m2 m3 m4 lb1 lb2 hown hw cD cE cC
        go_wp2_with (first
          | (refine wpList_store_row rfl 99 (.tmp 12) (.tmp 56) rfl g4 A rfl rfl 99 #[.int .i64 0, .int .i64 0, .int .i64 0, .int .i64 0, .int .i64 0, .int .i64 0, .int .i64 0, .int .i64 0, .int .i64 0, .int .i64 0, .int .i64 0, .int .i64 0, .int .i64 0, .int .i64 0, .int .i64 0, .int .i64 0] HX4.out HSZ.out HZ4.out HONE.out ?_)
          | (at_builtin; refine wpList_append_own _ rfl (.tmp 57) (.tmp 58) 60 rfl B 90 i0 _ 4 32 Tryz.underlying60 hi hz0 hz1 hz2 rfl (by decide) (.slice ro (k * 4) rc) (k * 4) ((eqL X Y k).map vi) rfl O5.out ⟨g4, 0, none⟩ 4 4 ((crF p q 4 0).map vi) rfl (by rw [List.length_map, HLE.out]) HN.out HONES.out (by unfold maxLen; omega) (by omega) (by omega) ?_; intro v6 w6 hown6 hgrow6 _; obtain ⟨g6, c6, rfl⟩ := owned_formG hown6))
        have e6 : (eqL X Y k).map vi ++ (crF p q 4 0).map vi = (eqL X Y (k + 1)).map vi := by rw [HE.out, List.map_append]
        rw [e6, show k * 4 + 4 = (k + 1) * 4 by omega] at hown6
        have O6 := Lib.hid hown6
        have W6 : Hid (Below B w3 w6) := Lib.hid (W5.out.grown hgrow6 (by omega) (fun j hj => owned_from O5.out j hj))
        have ek : k * 4 + 4 = (k + 1) * 4 := by omega
        clear hown6 hgrow6 O5 HX4 HN e6 hgl
        rw [← ek] at O6
        go_wp2
        exact ⟨⟨k + 1, by omega, by go_num, by rw [← ek]; exact O6, W6⟩, by simp [intOf]; omega⟩
    · obtain rfl : k = X.length := by omega
      have HO := hown
      have HWB := Lib.hid (b3.trans ((show Below w3.heap.size w3 wr by rw [HBe.out]; exact hw.out).mono b3.size))
      clear hown
      go_wp2
      go_ret2
      exact ⟨⟨B, _, rfl, HO.out⟩, HWB.out⟩
end Go.Proofs.YtkgihmhehkaocaaGreat

/- Which quaternions carry units to units: the program's equations and the document's products.
Conditions: none. -/
namespace Go.Proofs.YtkgihmhehkaocaaGreat
set_option linter.unusedVariables false
set_option linter.unusedSimpArgs false
set_option maxRecDepth 1000000
open Go.RowKit
open Um Tm

def eqQ (x y : Q) (k : Nat) : Q := ⟨eqn x y k 0, eqn x y k 1, eqn x y k 2, eqn x y k 3, 0⟩
theorem eqQ_dot (x y q : Q) {k : Nat} (hk : k < 4) : dot4 (eqQ x y k) q = cmp k (mul q x) - cmp k (mul y q) := by
  rcases cases4 hk with rfl | rfl | rfl | rfl <;> (simp [dot4, eqQ, eqn, cmp, mul, un]; grind)
theorem eqQ_bnd {x y : Q} (hx : B4 x 2) (hy : B4 y 2) {k : Nat} (hk : k < 4) : B4 (eqQ x y k) 4 := by
  have key : ∀ i, i < 4 → -4 ≤ eqn x y k i ∧ eqn x y k i ≤ 4 := fun i hi => by
    have h1 := (mul_un hx hi hk).1
    have h2 := (mul_un hy hi hk).2
    unfold eqn
    omega
  exact ⟨key 0 (by omega), key 1 (by omega), key 2 (by omega), key 3 (by omega)⟩
def rowQ (l : List Int) (j : Nat) : Q := ⟨l.getD (4 * j) 0, l.getD (4 * j + 1) 0, l.getD (4 * j + 2) 0, l.getD (4 * j + 3) 0, 0⟩
theorem crF_at (x y : Q) {k c : Nat} (hk : k < 4) (hc : c < 4) : (crF x y 4 0).getD (4 * k + c) 0 = eqn x y k c := by
  have h : (crF x y 4 0)[4 * k + c]? = some (eqn x y k c) := by
    simp only [crF, List.getElem?_map, List.getElem?_range (show 4 * k + c < 16 by omega), Option.map_some]
    rw [show (4 * k + c) % 4 = c by omega, show (4 * k + c) / 4 = k by omega, if_pos (by omega)]
  rw [List.getD_eq_getElem?_getD, h]
  rfl
theorem row_eqL (X Y : List Q) : ∀ (n j : Nat), j < 4 * n → rowQ (eqL X Y n) j = eqQ (dbl (lk X ((j / 4 : Nat) : Int))) (dbl (lk Y ((j / 4 : Nat) : Int))) (j % 4) := by
  intro n
  induction n with
  | zero => intro j hj; omega
  | succ n ih =>
    intro j hj
    have hl := eqL_len X Y n
    by_cases h : j < 4 * n
    · rw [← ih j h]
      have g : ∀ c, c < 4 → (eqL X Y (n + 1)).getD (4 * j + c) 0 = (eqL X Y n).getD (4 * j + c) 0 := fun c hc => by
        rw [eqL, List.getD_eq_getElem?_getD, List.getElem?_append_left (by omega), ← List.getD_eq_getElem?_getD]
      simp only [rowQ]
      rw [← Nat.add_zero (4 * j), g 0 (by omega), g 1 (by omega), g 2 (by omega), g 3 (by omega)]
    · obtain ⟨k, hk, rfl⟩ : ∃ k, k < 4 ∧ j = 4 * n + k := ⟨j - 4 * n, by omega, by omega⟩
      have g : ∀ c, c < 4 → (eqL X Y (n + 1)).getD (4 * (4 * n + k) + c) 0 = eqn (dbl (lk X (n : Int))) (dbl (lk Y (n : Int))) k c := fun c hc => by
        rw [eqL, List.getD_eq_getElem?_getD, List.getElem?_append_right (by omega), show 4 * (4 * n + k) + c - (eqL X Y n).length = 4 * k + c by omega, ← List.getD_eq_getElem?_getD, crF_at _ _ hk hc]
      rw [show (4 * n + k) / 4 = n by omega, show (4 * n + k) % 4 = k by omega]
      simp only [rowQ, eqQ]
      rw [← Nat.add_zero (4 * (4 * n + k)), g 0 (by omega), g 1 (by omega), g 2 (by omega), g 3 (by omega)]
/-- q * u is v * q -/
def turnsP (q u v : Q) : Prop := ∀ k, k < 4 → cmp k (mul q u) * v.n = cmp k (mul v q) * u.n
theorem cmp_dblR (q : Q) {u : Q} (h : u.n = 1 ∨ u.n = 2) (k : Nat) : (u.n = 1 ∧ cmp k (mul q (dbl u)) = 2 * cmp k (mul q u)) ∨ (u.n = 2 ∧ cmp k (mul q (dbl u)) = cmp k (mul q u)) := by
  rcases h with h | h
  · refine .inl ⟨h, ?_⟩
    have hd : dbl u = ⟨2 * u.a, 2 * u.b, 2 * u.c, 2 * u.d, 2⟩ := if_pos h
    rw [hd]
    unfold cmp mul
    dsimp only
    split
    · grind
    · split
      · grind
      · split <;> grind
  · refine .inr ⟨h, ?_⟩
    have hd : dbl u = ⟨u.a, u.b, u.c, u.d, 2⟩ := if_neg (by omega)
    rw [hd]
    rfl
theorem cmp_dblL (q : Q) {u : Q} (h : u.n = 1 ∨ u.n = 2) (k : Nat) : (u.n = 1 ∧ cmp k (mul (dbl u) q) = 2 * cmp k (mul u q)) ∨ (u.n = 2 ∧ cmp k (mul (dbl u) q) = cmp k (mul u q)) := by
  rcases h with h | h
  · refine .inl ⟨h, ?_⟩
    have hd : dbl u = ⟨2 * u.a, 2 * u.b, 2 * u.c, 2 * u.d, 2⟩ := if_pos h
    rw [hd]
    unfold cmp mul
    dsimp only
    split
    · grind
    · split
      · grind
      · split <;> grind
  · refine .inr ⟨h, ?_⟩
    have hd : dbl u = ⟨u.a, u.b, u.c, u.d, 2⟩ := if_neg (by omega)
    rw [hd]
    rfl
theorem turns_iff {q u v : Q} (hu : Sm2 u) (hv : Sm2 v) : turnsP q u v ↔ ∀ k, k < 4 → dot4 (eqQ (dbl u) (dbl v) k) q = 0 := by
  have key : ∀ k, k < 4 → (cmp k (mul q u) * v.n = cmp k (mul v q) * u.n ↔ dot4 (eqQ (dbl u) (dbl v) k) q = 0) := fun k hk => by
    rw [eqQ_dot _ _ _ hk]
    have h1 := cmp_dblR q (sm2_n hu) k
    have h2 := cmp_dblL q (sm2_n hv) k
    rcases h1 with ⟨e1, h1⟩ | ⟨e1, h1⟩ <;> rcases h2 with ⟨e2, h2⟩ | ⟨e2, h2⟩ <;> (rw [e1, e2, h1, h2]; omega)
  exact ⟨fun h k hk => (key k hk).1 (h k hk), fun h k hk => (key k hk).2 (h k hk)⟩
/-- the quaternion carries all units of one list to those of the other -/
def carP (X Y : List Q) (q : Q) : Prop := ∀ i, i < X.length → turnsP q (lk X (i : Int)) (lk Y (i : Int))
theorem car_rows {X Y : List Q} {q : Q} (hX : AllS X) (hY : AllS Y) (hl : Y.length = X.length) : carP X Y q ↔ ∀ j, j < X.length * 4 → dot4 (rowQ (eqL X Y X.length) j) q = 0 := by
  constructor
  · intro h j hj
    rw [row_eqL X Y _ j (by omega)]
    exact (turns_iff (hX.lk (by omega) (by omega)) (hY.lk (by omega) (by omega))).1 (h (j / 4) (by omega)) (j % 4) (Nat.mod_lt _ (by decide))
  · intro h i hi
    refine (turns_iff (hX.lk (by omega) (by omega)) (hY.lk (by omega) (by omega))).2 (fun k hk => ?_)
    have := h (4 * i + k) (by omega)
    rw [row_eqL X Y _ _ (by omega), show (4 * i + k) / 4 = i by omega, show (4 * i + k) % 4 = k by omega] at this
    exact this
theorem row_bnd {X Y : List Q} (hX : AllS X) (hY : AllS Y) (hl : Y.length = X.length) {j : Nat} (hj : j < X.length * 4) : B4 (rowQ (eqL X Y X.length) j) 4 := by
  rw [row_eqL X Y _ j (by omega)]
  exact eqQ_bnd (dbl_bnd (hX.lk (by omega) (by omega))) (dbl_bnd (hY.lk (by omega) (by omega))) (Nat.mod_lt _ (by decide))
end Go.Proofs.YtkgihmhehkaocaaGreat

/- Which quaternions are certificates, as the program finds it.
Conditions: those written at each theorem. -/
namespace Go.Proofs.YtkgihmhehkaocaaGreat
set_option linter.unusedVariables false
set_option linter.unusedSimpArgs false
set_option maxRecDepth 1000000
open Go.RowKit
open Um Tm

theorem ixQ0 (a b c d : Int) : ∀ w, (Instr.index 31 (.agg #[.int .i64 a, .int .i64 b, .int .i64 c, .int .i64 d]) (.int .i64 0)).run Tryz.prog w = .ok (.int .i64 a) w := fun _ => by kernel_rfl
theorem ixQ1 (a b c d : Int) : ∀ w, (Instr.index 31 (.agg #[.int .i64 a, .int .i64 b, .int .i64 c, .int .i64 d]) (.int .i64 1)).run Tryz.prog w = .ok (.int .i64 b) w := fun _ => by kernel_rfl
theorem ixQ2 (a b c d : Int) : ∀ w, (Instr.index 31 (.agg #[.int .i64 a, .int .i64 b, .int .i64 c, .int .i64 d]) (.int .i64 2)).run Tryz.prog w = .ok (.int .i64 c) w := fun _ => by kernel_rfl
theorem ixQ3 (a b c d : Int) : ∀ w, (Instr.index 31 (.agg #[.int .i64 a, .int .i64 b, .int .i64 c, .int .i64 d]) (.int .i64 3)).run Tryz.prog w = .ok (.int .i64 d) w := fun _ => by kernel_rfl
theorem eq4v (a b c d x y z t : Int) (W : World) : Sem.run Tryz.prog (Op.equalIn 10000 31 (.agg #[.int .i64 a, .int .i64 b, .int .i64 c, .int .i64 d]) (.agg #[.int .i64 x, .int .i64 y, .int .i64 z, .int .i64 t])) W = .ok (decide (a = x ∧ b = y ∧ c = z ∧ d = t)) W := by
  obtain ⟨i, hi⟩ := info3
  have h := run_equalIn_array W 9999 #[.int .i64 a, .int .i64 b, .int .i64 c, .int .i64 d] #[.int .i64 x, .int .i64 y, .int .i64 z, .int .i64 t] Tryz.underlying31 hi
  rw [show (10000 : Nat) = 9999 + 1 from rfl, h, cells3, show List.range 4 = [0, 1, 2, 3] from rfl]
  by_cases h1 : a = x
  · by_cases h2 : b = y
    · by_cases h3 : c = z
      · by_cases h4 : d = t
        · simp [Op.eqItems, go_sem, h1, h2, h3, h4]
        · simp [Op.eqItems, go_sem, h1, h2, h3, h4]
      · simp [Op.eqItems, go_sem, h1, h2, h3]
    · simp [Op.eqItems, go_sem, h1, h2]
  · simp [Op.eqItems, go_sem, h1]
theorem owned_liesNG {w : World} {base sz : Nat} {T : TypeId} {v : Value} {n : Nat} {l : List Int} (h : w.ownsRow base T sz v n (l.map vi)) (hn : 0 < n) (hl : l.length = n * sz) : ∃ g cap, v = .slice (some ⟨g, 0, none⟩) n cap ∧ base ≤ g ∧ LiesI w g 0 l := by
  have hc := h.2
  rcases hc with ⟨_, h0⟩ | ⟨g, cap, cur, rfl, hg, _⟩
  · omega
  · refine ⟨g, cap, rfl, hg, fun i x hx => ?_⟩
    have hi : i < l.length := (List.getElem?_eq_some_iff.1 hx).1
    rw [Nat.zero_add, h.cellAt i (by omega), List.getElem?_map, hx]
    rfl
def Z4 (q : Q) : Prop := q.a = 0 ∧ q.b = 0 ∧ q.c = 0 ∧ q.d = 0
/-- the answer of Check for two lists of loops -/
def ckO (X Y : List Q) (q : Q) (r : Int) : Prop := (¬ B4 q 1000 ∧ r = 1) ∨ (B4 q 1000 ∧ Z4 q ∧ r = 5) ∨ (B4 q 1000 ∧ ¬ Z4 q ∧ carP X Y q ∧ r = 0) ∨ (B4 q 1000 ∧ ¬ Z4 q ∧ ¬ carP X Y q ∧ r = 9)
set_option maxHeartbeats 12800000 in
theorem gaCk_ok (a b c : Int) (bl off bl' off' cap cap' N : Nat) (L M : List Q) (ms ns : List Int) (q : Q) (r : Int) (w : World) (h : Lies w bl off L) (h' : Lies w bl' off' M) (hF : fldR a b c L 0) (hF' : fldR a b c M 0) (hS : smR L ms true) (hS' : smR M ns true) (hN : (N : Int) = a * b * c) (hO : ckO (lpL a b c N L) (lpL a b c N M) q r) : Calls Tryz.prog 24 #[.agg #[.int .i64 a, .int .i64 b, .int .i64 c, .slice (some ⟨bl, off, none⟩) L.length cap], .agg #[.int .i64 a, .int .i64 b, .int .i64 c, .slice (some ⟨bl', off', none⟩) M.length cap'], .agg #[.int .i64 q.a, .int .i64 q.b, .int .i64 q.c, .int .i64 q.d]] w fun e w' => e = .returned (.int .i64 r) ∧ Below w.heap.size w w' := by
  have c1 := fun (W : World) (h : Lies W bl off L) (h' : Lies W bl' off' M) => gaBw_ok a b c bl off bl' off' cap cap' N L M ms ns W h h' hF hF' hS hS' hN
  have hn := (fldR_ok hF).2.1
  have hn' := (fldR_ok hF').2.1
  have hz := (fldR_ok hF).1
  have hp16 := hz.p
  have hA := AllS.num hS
  have hA' := AllS.num hS'
  have hFl : Fl a b c L := ⟨(fldR_ok hF).1, (fldR_ok hF).2.1, (fldR_ok hF).2.2⟩
  have hFl' : Fl a b c M := ⟨(fldR_ok hF').1, (fldR_ok hF').2.1, (fldR_ok hF').2.2⟩
  have hX : AllS (lpL a b c N L) := lpK_all _ (fxL_all hFl hA hN) _ (by rw [fxL_len]; exact Nat.le_refl _)
  have hY : AllS (lpL a b c N M) := lpK_all _ (fxL_all hFl' hA' hN) _ (by rw [fxL_len]; exact Nat.le_refl _)
  have hLM : L.length = M.length := by omega
  have hXl : (lpL a b c N L).length ≤ 48 := Nat.le_trans (lpK_len _ _ _) (by omega)
  have hYl : (lpL a b c N M).length = (lpL a b c N L).length := by unfold lpL; rw [hLM]; exact lpK_len_eq _ _ _ _
  have H := Lib.hid h
  have H' := Lib.hid h'
  clear h h' hF hF' hS hS' hN hz hn hn' hp16 hA hA' hFl hFl' hLM
  generalize lpL a b c N L = X at *
  generalize lpL a b c N M = Y at *
  have HCR := Lib.hid (car_rows (q := q) hX hY hYl)
  have HRB : Hid (∀ j, j < X.length * 4 → B4 (rowQ (eqL X Y X.length) j) 4) := Lib.hid (fun j hj => row_bnd hX hY hYl hj)
  have HEL := Lib.hid (eqL_len X Y X.length)
  have HO := Lib.hid hO
  have i0 := ixQ0 q.a q.b q.c q.d
  have i1 := ixQ1 q.a q.b q.c q.d
  have i2 := ixQ2 q.a q.b q.c q.d
  have i3 := ixQ3 q.a q.b q.c q.d
  clear hX hY hYl hO
  generalize eqL X Y X.length = l at *
  go_enter Tryz.func24, Tryz.ntmps24
  have Q0 := Lib.hid (C4.n3c (w := w) (v0 := .int .i64 q.a) (v1 := .int .i64 q.b) (v2 := .int .i64 q.c) (v3 := .int .i64 q.d) (T := 31) (o := .cells #[.int .i64 a, .int .i64 b, .int .i64 c, .slice (some ⟨bl, off, none⟩) L.length cap] 25) (p := .cells #[.int .i64 a, .int .i64 b, .int .i64 c, .slice (some ⟨bl', off', none⟩) M.length cap'] 25))
  go_wp2_with (fail)
  refine (c1 _ (H.out.later ba3) (H'.out.later ba3)).mono ?_
  rintro e w1 ⟨⟨B, v, rfl, ho⟩, hw1⟩
  have HW := Lib.hid ho
  have HB := Lib.hid (bel3 hw1)
  have Q1 := Lib.hid (Q0.out.later hw1)
  obtain ⟨ro, rc, rfl⟩ := owned_formG ho
  clear c1 Q0 hw1 ho
  obtain ⟨q0, q1, q2, q3, qf, ql⟩ := Q1.out
  go_wp2
  refine wp_loop_rounds 5 ?_
  rw [rounds_succ]
  by_cases ha : -1000 ≤ q.a ∧ q.a ≤ 1000
  rotate_left
  · have hr1 : r = 1 := by
      rcases HO.out with ⟨_, h⟩ | ⟨h, _⟩ | ⟨h, _⟩ | ⟨h, _⟩
      · exact h
      all_goals exact absurd h.a ha
    subst hr1
    by_cases hlo : q.a < -1000
    · clear ha
      go_wp2
      go_ret
      exact ⟨rfl, HB.out⟩
    · have hhi : 1000 < q.a := by omega
      clear ha
      go_wp2
      go_ret
      exact ⟨rfl, HB.out⟩
  obtain ⟨a1, a2⟩ := ha
  go_wp2
  rw [rounds_succ]
  by_cases hb : -1000 ≤ q.b ∧ q.b ≤ 1000
  rotate_left
  · have hr1 : r = 1 := by
      rcases HO.out with ⟨_, h⟩ | ⟨h, _⟩ | ⟨h, _⟩ | ⟨h, _⟩
      · exact h
      all_goals exact absurd h.b hb
    subst hr1
    by_cases hlo : q.b < -1000
    · clear hb
      go_wp2
      go_ret
      exact ⟨rfl, HB.out⟩
    · have hhi : 1000 < q.b := by omega
      clear hb
      go_wp2
      go_ret
      exact ⟨rfl, HB.out⟩
  obtain ⟨b1, b2⟩ := hb
  go_wp2
  rw [rounds_succ]
  by_cases hc : -1000 ≤ q.c ∧ q.c ≤ 1000
  rotate_left
  · have hr1 : r = 1 := by
      rcases HO.out with ⟨_, h⟩ | ⟨h, _⟩ | ⟨h, _⟩ | ⟨h, _⟩
      · exact h
      all_goals exact absurd h.c hc
    subst hr1
    by_cases hlo : q.c < -1000
    · clear hc
      go_wp2
      go_ret
      exact ⟨rfl, HB.out⟩
    · have hhi : 1000 < q.c := by omega
      clear hc
      go_wp2
      go_ret
      exact ⟨rfl, HB.out⟩
  obtain ⟨c1, c2⟩ := hc
  go_wp2
  rw [rounds_succ]
  by_cases hd : -1000 ≤ q.d ∧ q.d ≤ 1000
  rotate_left
  · have hr1 : r = 1 := by
      rcases HO.out with ⟨_, h⟩ | ⟨h, _⟩ | ⟨h, _⟩ | ⟨h, _⟩
      · exact h
      all_goals exact absurd h.d hd
    subst hr1
    by_cases hlo : q.d < -1000
    · clear hd
      go_wp2
      go_ret
      exact ⟨rfl, HB.out⟩
    · have hhi : 1000 < q.d := by omega
      clear hd
      go_wp2
      go_ret
      exact ⟨rfl, HB.out⟩
  obtain ⟨d1, d2⟩ := hd
  go_wp2
  rw [rounds_succ]
  by_cases hz : Z4 q
  · have qx : ∀ W, Sem.run Tryz.prog (Op.equalIn 10000 31 (.agg #[.int .i64 q.a, .int .i64 q.b, .int .i64 q.c, .int .i64 q.d]) (.agg #[.int .i64 0, .int .i64 0, .int .i64 0, .int .i64 0])) W = .ok true W := fun W => by rw [eq4v, decide_eq_true (show q.a = 0 ∧ q.b = 0 ∧ q.c = 0 ∧ q.d = 0 from hz)]
    have hr1 : r = 5 := by
      rcases HO.out with ⟨h, _⟩ | ⟨_, _, h⟩ | ⟨_, h, _⟩ | ⟨_, h, _⟩
      · exact absurd ⟨⟨a1, a2⟩, ⟨b1, b2⟩, ⟨c1, c2⟩, ⟨d1, d2⟩⟩ h
      · exact h
      · exact absurd hz h
      · exact absurd hz h
    subst hr1
    clear hz
    go_wp2
    go_ret
    exact ⟨rfl, HB.out⟩
  · have qx : ∀ W, Sem.run Tryz.prog (Op.equalIn 10000 31 (.agg #[.int .i64 q.a, .int .i64 q.b, .int .i64 q.c, .int .i64 q.d]) (.agg #[.int .i64 0, .int .i64 0, .int .i64 0, .int .i64 0])) W = .ok false W := fun W => by rw [eq4v, decide_eq_false (show ¬ (q.a = 0 ∧ q.b = 0 ∧ q.c = 0 ∧ q.d = 0) from hz)]
    have hor : (carP X Y q ∧ r = 0) ∨ (¬ carP X Y q ∧ r = 9) := by
      rcases HO.out with ⟨h, _⟩ | ⟨_, h, _⟩ | ⟨_, _, h1, h2⟩ | ⟨_, _, h1, h2⟩
      · exact absurd ⟨⟨a1, a2⟩, ⟨b1, b2⟩, ⟨c1, c2⟩, ⟨d1, d2⟩⟩ h
      · exact absurd h hz
      · exact .inl ⟨h1, h2⟩
      · exact .inr ⟨h1, h2⟩
    rw [HCR.out] at hor
    have HOR := Lib.hid hor
    have HQB : Hid (B4 q 1000) := Lib.hid ⟨⟨a1, a2⟩, ⟨b1, b2⟩, ⟨c1, c2⟩, ⟨d1, d2⟩⟩
    clear hz hor HO HCR
    go_wp2
    clear qx q0 q1 q2 q3 qf ql i0 i1 i2 i3
    go_loopw [12, 38] (fun _ p wr => ∃ j : Nat, j ≤ X.length * 4 ∧ p = .int .i64 j ∧ Hid (∀ i, i < j → dot4 (rowQ l i) q = 0) ∧ Hid (Below w1.heap.size w1 wr)) (fun _ p _ => X.length * 4 - (intOf p).toNat)
    case atStart => exact ⟨0, by omega, rfl, Lib.hid (fun i h => absurd h (Nat.not_lt_zero _)), Lib.hid (Below.refl _ _)⟩
    case round =>
      obtain ⟨j, hj, rfl, hall, hb⟩ := hrel
      by_cases hlt : j < X.length * 4
      · obtain ⟨g, cp, he, hge, hli⟩ := owned_liesNG HW.out (by omega) (by rw [HEL.out]; omega)
        simp only [Value.slice.injEq, true_and] at he
        obtain ⟨rfl, rfl⟩ := he
        have key : ∀ c, c < 4 → wr.cell? ⟨g, j * 4 + c, none⟩ = some (.int .i64 (l.getD (4 * j + c) 0)) := fun c hc => by
          have hlen : 4 * j + c < l.length := by rw [HEL.out]; omega
          have := (hli.later hb.out) (4 * j + c) (l.getD (4 * j + c) 0) (by rw [List.getD_eq_getElem?_getD, List.getElem?_eq_getElem hlen]; rfl)
          rw [Nat.zero_add, Nat.mul_comm 4 j] at this
          rw [Nat.mul_comm 4 j]
          exact this
        have k0 := key 0 (by omega)
        have k1 := key 1 (by omega)
        have k2 := key 2 (by omega)
        have k3 := key 3 (by omega)
        have cT := fun W : World => gqAt_any (rowQ l j) q W ((HRB.out j hlt).le (by decide)) (HQB.out.le (by decide))
        have kl := World.block_lt_of_cell? _ _ k0
        simp only [Nat.add_zero] at k0 k1 k2 k3
        have ij : (j : Int) < ((X.length * 4 : Nat) : Int) := by omega
        have hrq : rowQ l j = ⟨l.getD (4 * j) 0, l.getD (4 * j + 1) 0, l.getD (4 * j + 2) 0, l.getD (4 * j + 3) 0, 0⟩ := rfl
        have e0 : l.getD (4 * j) 0 = (rowQ l j).a := rfl
        have e1 : l.getD (4 * j + 1) 0 = (rowQ l j).b := rfl
        have e2 : l.getD (4 * j + 2) 0 = (rowQ l j).c := rfl
        have e3 : l.getD (4 * j + 3) 0 = (rowQ l j).d := rfl
        rw [e0] at k0
        rw [e1] at k1
        rw [e2] at k2
        rw [e3] at k3
        have hdot : (∀ i, i < j + 1 → dot4 (rowQ l i) q = 0) ↔ dot4 (rowQ l j) q = 0 := ⟨fun h => h j (by omega), fun h i hi => by
          by_cases hij : i = j
          · subst hij; exact h
          · exact hall.out i (by omega)⟩
        have HDOT := Lib.hid hdot
        have hbad : dot4 (rowQ l j) q ≠ 0 → r = 9 := fun h => by
          rcases HOR.out with ⟨h1, _⟩ | ⟨_, h1⟩
          · exact absurd (h1 j hlt) h
          · exact h1
        have HBAD := Lib.hid hbad
        clear hrq e0 e1 e2 e3 key hli hdot hbad
        generalize rowQ l j = E at *
        generalize dot4 E q = dv at *
        obtain ⟨q0, q1, q2, q3, qf, ql⟩ := (Q1.out.later hb.out).later (ba1 (o := .cells #[.int .i64 E.a, .int .i64 E.b, .int .i64 E.c, .int .i64 E.d] 90))
        go_wp2_with (fail)
        refine (cT _).mono ?_
        rintro e w5 ⟨rfl, hw5⟩
        have b5 := hb.out.trans ((bel1 hw5).mono hb.out.size)
        clear cT k0 k1 k2 k3 kl q0 q1 q2 q3 qf ql hw5
        by_cases hd : dv = 0
        · have HD := Lib.hid (HDOT.out.2 hd)
          have HB5 := Lib.hid b5
          subst hd
          clear b5 HDOT
          go_wp2
          exact ⟨⟨j + 1, by omega, by go_num, HD, HB5⟩, by simp [intOf]; omega⟩
        · obtain rfl : r = 9 := HBAD.out hd
          have hd' : (dv != 0) = true := by simpa using hd
          have HB5 := Lib.hid (HB.out.trans (b5.mono HB.out.size))
          clear b5 HDOT hd
          go_wp2
          go_ret
          exact ⟨rfl, HB5.out⟩
      · obtain rfl : j = X.length * 4 := by omega
        obtain rfl : r = 0 := by
          rcases HOR.out with ⟨_, h1⟩ | ⟨h1, _⟩
          · exact h1
          · exact absurd hall.out h1
        go_wp2
        go_ret
        exact ⟨rfl, HB.out.trans (hb.out.mono HB.out.size)⟩
end Go.Proofs.YtkgihmhehkaocaaGreat
