/- TopUnits: products, inverses, traces, distances, rotations, the Cayley map and the small units belong together, for all units, vectors and numbers.
Conditions: none. -/
import Derived.Test.YtoafojojhdcmfaaTopUM
import Derived.Test.YtoafojojhdcmfaaOrder
import Derived.Test.YtoafojojhdcmfaaConj
import Derived.Test.YtoafojojhdcmfaaDist
import Derived.Test.YtoafojojhdcmfaaEqU
import Derived.Test.YtoafojojhdcmfaaCay
import Derived.Test.YtoafojojhdcmfaaRot
import Derived.Test.YtoafojojhdcmfaaRat
import Derived.Test.YtoafojojhdcmfaaNumber
import Derived.Test.YtoafojojhdcmfaaMulCases
import Derived.Test.YtoafojojhdcmfaaLists
import Derived.Deep.CutRange
import Derived.Lib.Hide
namespace Go.Proofs.Ytoafojojhdcmfaa
set_option linter.unusedVariables false
set_option linter.unusedSimpArgs false
set_option maxRecDepth 1000000
open Go.ChangeShapes Go.WideShapes Go.ChangeAt Go.RowKit
open Um

/-- what lies in the three boxes of the arguments -/
structure TB (wx : World) (n : Nat) (x y : Q) (a b c d s t : Int) : Prop where
  x0 : wx.cell? ⟨n, 0, none⟩ = some (.int .i64 x.a)
  x1 : wx.cell? ⟨n, 1, none⟩ = some (.int .i64 x.b)
  x2 : wx.cell? ⟨n, 2, none⟩ = some (.int .i64 x.c)
  x3 : wx.cell? ⟨n, 3, none⟩ = some (.int .i64 x.d)
  x4 : wx.cell? ⟨n, 4, none⟩ = some (.int .i64 x.n)
  y0 : wx.cell? ⟨n + 1, 0, none⟩ = some (.int .i64 y.a)
  y1 : wx.cell? ⟨n + 1, 1, none⟩ = some (.int .i64 y.b)
  y2 : wx.cell? ⟨n + 1, 2, none⟩ = some (.int .i64 y.c)
  y3 : wx.cell? ⟨n + 1, 3, none⟩ = some (.int .i64 y.d)
  y4 : wx.cell? ⟨n + 1, 4, none⟩ = some (.int .i64 y.n)
  z0 : wx.cell? ⟨n + 2, 0, none⟩ = some (.int .i64 a)
  z1 : wx.cell? ⟨n + 2, 1, none⟩ = some (.int .i64 b)
  z2 : wx.cell? ⟨n + 2, 2, none⟩ = some (.int .i64 c)
  z3 : wx.cell? ⟨n + 2, 3, none⟩ = some (.int .i64 d)
  z4 : wx.cell? ⟨n + 2, 4, none⟩ = some (.int .i64 s)
  z5 : wx.cell? ⟨n + 2, 5, none⟩ = some (.int .i64 t)
theorem TB.keep {wx w1 : World} {n : Nat} {x y : Q} {a b c d s t : Int} (h : TB wx n x y a b c d s t) (hk : ∀ (q : Addr) (v : Value), wx.cell? q = some v → w1.cell? q = some v) : TB w1 n x y a b c d s t :=
  ⟨hk _ _ h.x0, hk _ _ h.x1, hk _ _ h.x2, hk _ _ h.x3, hk _ _ h.x4, hk _ _ h.y0, hk _ _ h.y1, hk _ _ h.y2, hk _ _ h.y3, hk _ _ h.y4, hk _ _ h.z0, hk _ _ h.z1, hk _ _ h.z2, hk _ _ h.z3, hk _ _ h.z4, hk _ _ h.z5⟩

theorem TB.later {wx w1 : World} {n : Nat} {x y : Q} {a b c d s t : Int} (h : TB wx n x y a b c d s t) (hb : Below wx.heap.size wx w1) : TB w1 n x y a b c d s t :=
  h.keep fun q v hq => by
    have hl := World.block_lt_of_cell? wx q hq
    obtain ⟨b, o, u⟩ := q
    cases u with
    | none => exact ((Tail.cells hb).1 b o hl).trans hq
    | some _ => exact (hb.cell hl).trans hq
/-- all went well with the two units -/
structure PairsOk (x y i p q : Q) (e f g h j : Int) (ta tb : Int × Int) : Prop where
  h1 : e = 0
  h2 : f = 0
  h3 : g = 0
  h4 : h = 0
  h5 : j = 0
  hx : V x
  hy : V y
  hi : i = bar y
  hp : p = low (mul x y)
  hq : q = low (mul x (bar y))
  hvp : V p
  hvq : V q
  ha : ta = tr x
  hb : tb = tr y
/-- the parts of the law that speak of two units -/
inductive Pairs (x y i p q : Q) (e f g h j : Int) (ta tb : Int × Int) : Prop where
  | one (h1 : e = 1)
  | two (h1 : e = 0) (h2 : f = 1 ∨ f = 3)
  | three (h1 : e = 0) (h2 : f = 0) (h3 : g = 3)
  | all (h : PairsOk x y i p q e f g h j ta tb)

theorem small_injT : ∀ k : Nat, k < 24 → ∀ j : Nat, j < k → small j ≠ small k := by decide +kernel
theorem small_VT (k : Nat) (hk : k < 24) : V (small k) := by
  have h := small_v k hk
  have h2 := small_ok k hk
  exact ⟨⟨h.2.2, h.2.1⟩, h.1, by rcases h2 with h2 | h2 <;> omega⟩
theorem small_V8 : V (small 8) := small_VT 8 (by decide)
theorem numR_smallT (k : Nat) (hk : k < 24) : NumR (small k) k true := .inl ⟨k, hk, rfl, small_injT k hk, rfl, rfl⟩
theorem numR_small8 : NumR (small 8) 8 true := numR_smallT 8 (by decide)

theorem pairs_ex (x y : Q) : ∃ (i p q : Q) (e f g h j : Int) (ta tb : Int × Int), Pairs x y i p q e f g h j ta tb ∧
    (∀ W : World, Calls Try.prog 32 #[.agg #[.int .i64 y.a, .int .i64 y.b, .int .i64 y.c, .int .i64 y.d, .int .i64 y.n]] W fun e1 w' => e1 = .returned (.tuple #[.agg #[.int .i64 i.a, .int .i64 i.b, .int .i64 i.c, .int .i64 i.d, .int .i64 i.n], .int .i64 e]) ∧ Below W.heap.size W w') ∧
    (∀ W : World, Calls Try.prog 68 #[.agg #[.int .i64 x.a, .int .i64 x.b, .int .i64 x.c, .int .i64 x.d, .int .i64 x.n], .agg #[.int .i64 y.a, .int .i64 y.b, .int .i64 y.c, .int .i64 y.d, .int .i64 y.n]] W fun e1 w' => e1 = .returned (.tuple #[.agg #[.int .i64 p.a, .int .i64 p.b, .int .i64 p.c, .int .i64 p.d, .int .i64 p.n], .int .i64 f]) ∧ Below W.heap.size W w') ∧
    (∀ W : World, Calls Try.prog 68 #[.agg #[.int .i64 x.a, .int .i64 x.b, .int .i64 x.c, .int .i64 x.d, .int .i64 x.n], .agg #[.int .i64 i.a, .int .i64 i.b, .int .i64 i.c, .int .i64 i.d, .int .i64 i.n]] W fun e1 w' => e1 = .returned (.tuple #[.agg #[.int .i64 q.a, .int .i64 q.b, .int .i64 q.c, .int .i64 q.d, .int .i64 q.n], .int .i64 g]) ∧ Below W.heap.size W w') ∧
    (∀ W : World, Calls Try.prog 69 #[.agg #[.int .i64 x.a, .int .i64 x.b, .int .i64 x.c, .int .i64 x.d, .int .i64 x.n]] W fun e1 w' => e1 = .returned (.tuple #[.agg #[.int .i64 (ta).1, .int .i64 (ta).2], .int .i64 h]) ∧ Below W.heap.size W w') ∧
    (∀ W : World, Calls Try.prog 69 #[.agg #[.int .i64 y.a, .int .i64 y.b, .int .i64 y.c, .int .i64 y.d, .int .i64 y.n]] W fun e1 w' => e1 = .returned (.tuple #[.agg #[.int .i64 (tb).1, .int .i64 (tb).2], .int .i64 j]) ∧ Below W.heap.size W w') := by
  have ht : ∀ z : Q, ∃ (t : Int × Int) (et : Int), ((V z ∧ t = tr z ∧ et = 0) ∨ (¬ V z)) ∧ ∀ W : World, Calls Try.prog 69 #[.agg #[.int .i64 z.a, .int .i64 z.b, .int .i64 z.c, .int .i64 z.d, .int .i64 z.n]] W fun e w' => e = .returned (.tuple #[.agg #[.int .i64 (t).1, .int .i64 (t).2], .int .i64 et]) ∧ Below W.heap.size W w' := by
    intro z
    by_cases hz : V z
    · exact ⟨tr z, 0, .inl ⟨hz, rfl, rfl⟩, fun W => trace_ok z W hz⟩
    · exact ⟨(0, 0), 1, .inr hz, fun W => trace_bad z W hz⟩
  obtain ⟨ta, h, t1, c4⟩ := ht x
  obtain ⟨tb, j, t2, c5⟩ := ht y
  by_cases hy : V y
  · by_cases hx : V x
    · obtain ⟨-, rfl, rfl⟩ := t1.resolve_right (fun hn => hn hx)
      obtain ⟨-, rfl, rfl⟩ := t2.resolve_right (fun hn => hn hy)
      by_cases hl1 : (low (mul x y)).n ≤ 1048576
      · by_cases hl2 : (low (mul x (bar y))).n ≤ 1048576
        · exact ⟨bar y, low (mul x y), low (mul x (bar y)), 0, 0, 0, 0, 0, tr x, tr y, .all ⟨rfl, rfl, rfl, rfl, rfl, hx, hy, rfl, rfl, rfl, V.of_low (mul_len x y hx.u hy.u) hl1, V.of_low (mul_len x (bar y) hx.u hy.bar.u) hl2, rfl, rfl⟩,
            fun W => inv_ok y W hy, fun W => mul_good x y _ 0 W hx hy (.inl ⟨hl1, rfl, rfl⟩), fun W => mul_good x (bar y) _ 0 W hx hy.bar (.inl ⟨hl2, rfl, rfl⟩), c4, c5⟩
        · exact ⟨bar y, low (mul x y), zero, 0, 0, 3, 0, 0, tr x, tr y, .three rfl rfl rfl,
            fun W => inv_ok y W hy, fun W => mul_good x y _ 0 W hx hy (.inl ⟨hl1, rfl, rfl⟩), fun W => mul_good x (bar y) _ 3 W hx hy.bar (.inr ⟨by omega, rfl, rfl⟩), c4, c5⟩
      · obtain ⟨q, g, cq⟩ : ∃ (q : Q) (g : Int), ∀ W : World, Calls Try.prog 68 #[.agg #[.int .i64 x.a, .int .i64 x.b, .int .i64 x.c, .int .i64 x.d, .int .i64 x.n], .agg #[.int .i64 (bar y).a, .int .i64 (bar y).b, .int .i64 (bar y).c, .int .i64 (bar y).d, .int .i64 (bar y).n]] W fun e w' => e = .returned (.tuple #[.agg #[.int .i64 q.a, .int .i64 q.b, .int .i64 q.c, .int .i64 q.d, .int .i64 q.n], .int .i64 g]) ∧ Below W.heap.size W w' := by
          by_cases hl2 : (low (mul x (bar y))).n ≤ 1048576
          · exact ⟨_, 0, fun W => mul_good x (bar y) _ 0 W hx hy.bar (.inl ⟨hl2, rfl, rfl⟩)⟩
          · exact ⟨_, 3, fun W => mul_good x (bar y) _ 3 W hx hy.bar (.inr ⟨by omega, rfl, rfl⟩)⟩
        exact ⟨bar y, zero, q, 0, 3, g, 0, 0, tr x, tr y, .two rfl (.inr rfl),
          fun W => inv_ok y W hy, fun W => mul_good x y _ 3 W hx hy (.inr ⟨by omega, rfl, rfl⟩), cq, c4, c5⟩
    · exact ⟨bar y, zero, zero, 0, 1, 1, h, j, ta, tb, .two rfl (.inl rfl), fun W => inv_ok y W hy, fun W => mul_bad x y W (.inl hx), fun W => mul_bad x (bar y) W (.inl hx), c4, c5⟩
  · exact ⟨zero, zero, zero, 1, 1, 1, h, j, ta, tb, .one rfl, fun W => inv_bad y W hy, fun W => mul_bad x y W (.inr hy), fun W => mul_bad x zero W (.inr not_V_zero), c4, c5⟩

/-- what is called once all went well with the two units -/
theorem pairs_calls {x y i p q : Q} {e f g h j : Int} {ta tb : Int × Int} (hk : PairsOk x y i p q e f g h j ta tb) : ∃ (tc td rr dr : Int × Int) (D : Int),
    ((∀ W : World, Calls Try.prog 69 #[.agg #[.int .i64 p.a, .int .i64 p.b, .int .i64 p.c, .int .i64 p.d, .int .i64 p.n]] W fun e1 w' => e1 = .returned (.tuple #[.agg #[.int .i64 (tc).1, .int .i64 (tc).2], .int .i64 0]) ∧ Below W.heap.size W w') ∧
    (∀ W : World, Calls Try.prog 69 #[.agg #[.int .i64 q.a, .int .i64 q.b, .int .i64 q.c, .int .i64 q.d, .int .i64 q.n]] W fun e1 w' => e1 = .returned (.tuple #[.agg #[.int .i64 (td).1, .int .i64 (td).2], .int .i64 0]) ∧ Below W.heap.size W w') ∧
    (∀ W : World, Calls Try.prog 70 #[.int .i64 (ta.1 * tb.1), .int .i64 (ta.2 * tb.2)] W fun e1 w' => e1 = .returned (.agg #[.int .i64 (rr).1, .int .i64 (rr).2]) ∧ Below W.heap.size W w') ∧
    (∀ W : World, Calls Try.prog 70 #[.int .i64 (tc.1 * td.2 + td.1 * tc.2), .int .i64 (tc.2 * td.2)] W fun e1 w' => e1 = .returned (.agg #[.int .i64 (rr).1, .int .i64 (rr).2]) ∧ Below W.heap.size W w') ∧
    (∀ W : World, Calls Try.prog 71 #[.agg #[.int .i64 y.a, .int .i64 y.b, .int .i64 y.c, .int .i64 y.d, .int .i64 y.n], .agg #[.int .i64 y.a, .int .i64 y.b, .int .i64 y.c, .int .i64 y.d, .int .i64 y.n]] W fun e1 w' => e1 = .returned (.tuple #[.agg #[.int .i64 0, .int .i64 D], .int .i64 0]) ∧ Below W.heap.size W w') ∧
    (∀ W : World, Calls Try.prog 71 #[.agg #[.int .i64 x.a, .int .i64 x.b, .int .i64 x.c, .int .i64 x.d, .int .i64 x.n], .agg #[.int .i64 p.a, .int .i64 p.b, .int .i64 p.c, .int .i64 p.d, .int .i64 p.n]] W fun e1 w' => e1 = .returned (.tuple #[.agg #[.int .i64 (dr).1, .int .i64 (dr).2], .int .i64 0]) ∧ Below W.heap.size W w') ∧
    (∀ W : World, Calls Try.prog 71 #[.agg #[.int .i64 one.a, .int .i64 one.b, .int .i64 one.c, .int .i64 one.d, .int .i64 one.n], .agg #[.int .i64 y.a, .int .i64 y.b, .int .i64 y.c, .int .i64 y.d, .int .i64 y.n]] W fun e1 w' => e1 = .returned (.tuple #[.agg #[.int .i64 (dr).1, .int .i64 (dr).2], .int .i64 0]) ∧ Below W.heap.size W w')) ∧
    ((¬ tc.2 < 1 ∧ ¬ td.2 < 1 ∧ ¬ 1048576 < tc.2 ∧ ¬ 1048576 < td.2 ∧ ¬ ta.2 < 1 ∧ ¬ tb.2 < 1) ∧
    IntKind.i64.wrap (ta.1 * tb.1) = ta.1 * tb.1 ∧ IntKind.i64.wrap (ta.2 * tb.2) = ta.2 * tb.2 ∧ IntKind.i64.wrap (tc.1 * td.2) = tc.1 * td.2 ∧ IntKind.i64.wrap (td.1 * tc.2) = td.1 * tc.2 ∧
    IntKind.i64.wrap (tc.1 * td.2 + td.1 * tc.2) = tc.1 * td.2 + td.1 * tc.2 ∧ IntKind.i64.wrap (tc.2 * td.2) = tc.2 * td.2) := by
  obtain ⟨-, -, -, -, -, hx, hy, hi, hp, hq, hvp, hvq, rfl, rfl⟩ := hk
  have bd : ∀ z : Q, V z → (1 ≤ (tr z).2 ∧ (tr z).2 ≤ 1048576) ∧ (-2097152 ≤ (tr z).1 ∧ (tr z).1 ≤ 2097152) := by
    intro z hz
    have h1 := rat_pos (2 * z.a) z.n hz.u.pos
    have h2 := rat_le (2 * z.a) z.n hz.u.pos
    have h3 := V.le_two hz
    have h4 := rat_abs (2 * z.a) z.n 2 hz.u.pos (by omega) (by omega)
    have h5 := hz.le
    unfold tr
    omega
  have bm : ∀ a b : Int, (-2097152 ≤ a ∧ a ≤ 2097152) → (-2097152 ≤ b ∧ b ≤ 2097152) → -4398046511104 ≤ a * b ∧ a * b ≤ 4398046511104 := fun a b ha hb => mul_bnd (X := 2097152) (Y := 2097152) (by decide) ha hb
  have x1 := bd x hx
  have y1 := bd y hy
  have p1 := bd p hvp
  have q1 := bd q hvq
  have m1 := bm _ _ x1.2 y1.2
  have m2 := bm _ _ (show -2097152 ≤ (tr x).2 ∧ (tr x).2 ≤ 2097152 by omega) (show -2097152 ≤ (tr y).2 ∧ (tr y).2 ≤ 2097152 by omega)
  have m3 := bm _ _ p1.2 (show -2097152 ≤ (tr q).2 ∧ (tr q).2 ≤ 2097152 by omega)
  have m4 := bm _ _ q1.2 (show -2097152 ≤ (tr p).2 ∧ (tr p).2 ≤ 2097152 by omega)
  have m5 := bm _ _ (show -2097152 ≤ (tr p).2 ∧ (tr p).2 ≤ 2097152 by omega) (show -2097152 ≤ (tr q).2 ∧ (tr q).2 ≤ 2097152 by omega)
  have n2 : 0 < (tr x).2 * (tr y).2 := Int.mul_pos (by omega) (by omega)
  have n5 : 0 < (tr p).2 * (tr q).2 := Int.mul_pos (by omega) (by omega)
  have ht := tr_mul x y p q hx hy hp hq
  have hd : dist x p = dist one y := by rw [hp]; exact dist_mul x y hx hy
  have hz := dist_self y hy
  have d1 := fun W : World => dist_ok y y W hy hy
  rw [hz] at d1
  have d2 := fun W : World => dist_ok x p W hx hvp
  rw [hd] at d2
  have r1 := fun W : World => refRatio_any ((tr x).1 * (tr y).1) ((tr x).2 * (tr y).2) W (by omega) (by omega)
  have r2 := fun W : World => refRatio_any ((tr p).1 * (tr q).2 + (tr q).1 * (tr p).2) ((tr p).2 * (tr q).2) W (by omega) (by omega)
  rw [← ht] at r2
  exact ⟨tr p, tr q, _, dist one y, _, ⟨fun W => trace_ok p W hvp, fun W => trace_ok q W hvq, r1, r2, d1, d2, fun W => dist_ok one y W V.one hy⟩,
    ⟨by omega, by omega, by omega, by omega, by omega, by omega⟩, IntWalk.i64_in _ (by omega), IntWalk.i64_in _ (by omega), IntWalk.i64_in _ (by omega), IntWalk.i64_in _ (by omega), IntWalk.i64_in _ (by omega), IntWalk.i64_in _ (by omega)⟩

/-- a turned vector's length, as the law reckons it -/
def RF (n a b c : Int) (p q r : Int × Int) : Prop := ∃ (N D0 D1 D2 n0 n1 n2 s0 s1 s2 s01 S A B C AB L M : Int),
  IntKind.i64.wrap (n * n) = N ∧
  ((¬ p.2 < 1 ∧ ¬ p.2 = 0 ∧ (p.2 == 0) = false) ∧ N.tmod p.2 = 0 ∧ IntKind.i64.wrap (N.tdiv p.2) = D0 ∧ IntKind.i64.wrap (p.1 * D0) = n0 ∧ IntKind.i64.wrap (n0 * n0) = s0) ∧
  ((¬ q.2 < 1 ∧ ¬ q.2 = 0 ∧ (q.2 == 0) = false) ∧ N.tmod q.2 = 0 ∧ IntKind.i64.wrap (N.tdiv q.2) = D1 ∧ IntKind.i64.wrap (q.1 * D1) = n1 ∧ IntKind.i64.wrap (n1 * n1) = s1) ∧
  ((¬ r.2 < 1 ∧ ¬ r.2 = 0 ∧ (r.2 == 0) = false) ∧ N.tmod r.2 = 0 ∧ IntKind.i64.wrap (N.tdiv r.2) = D2 ∧ IntKind.i64.wrap (r.1 * D2) = n2 ∧ IntKind.i64.wrap (n2 * n2) = s2) ∧
  (IntKind.i64.wrap s0 = s0 ∧ IntKind.i64.wrap (s0 + s1) = s01 ∧ IntKind.i64.wrap (s01 + s2) = S) ∧
  (IntKind.i64.wrap (a * a) = A ∧ IntKind.i64.wrap (b * b) = B ∧ IntKind.i64.wrap (c * c) = C ∧ IntKind.i64.wrap (A + B) = AB ∧ IntKind.i64.wrap (AB + C) = L ∧ IntKind.i64.wrap (L * N) = M ∧ IntKind.i64.wrap (M * N) = S)

theorem rf_of (x : Q) (a b c : Int) (hx : V x) (hn : x.n ≤ 1000) (ha : -1000 ≤ a ∧ a ≤ 1000) (hb : -1000 ≤ b ∧ b ≤ 1000) (hc : -1000 ≤ c ∧ c ≤ 1000) :
    RF x.n a b c (rat (turn x a b c).b (turn x a b c).n) (rat (turn x a b c).c (turn x a b c).n) (rat (turn x a b c).d (turn x a b c).n) := by
  obtain ⟨⟨N1, N0⟩, ⟨L0, L1⟩, ⟨M0, M1⟩, ⟨S0, S1⟩, hS⟩ := turn_sq x a b c hx.u hn ha hb hc
  have hN : 0 < (turn x a b c).n := by rw [turn_n]; exact Int.mul_pos hx.u.pos hx.u.pos
  obtain ⟨p1, p2, p3⟩ := rat_whole (turn x a b c).b (turn x a b c).n hN
  obtain ⟨q1, q2, q3⟩ := rat_whole (turn x a b c).c (turn x a b c).n hN
  obtain ⟨r1, r2, r3⟩ := rat_whole (turn x a b c).d (turn x a b c).n hN
  have k0 := sq_nonneg (turn x a b c).b
  have k1 := sq_nonneg (turn x a b c).c
  have k2 := sq_nonneg (turn x a b c).d
  have a0 := sq_nonneg a
  have b0 := sq_nonneg b
  have c0 := sq_nonneg c
  have bd : ∀ z : Int, 0 ≤ z * z → z * z ≤ 3000000000000000000 → -3000000000 ≤ z ∧ z ≤ 3000000000 := by
    intro z _ h
    constructor
    · refine Int.not_lt.1 fun hz => ?_
      have := Int.mul_le_mul (show (3000000000 : Int) ≤ -z by omega) (show (3000000000 : Int) ≤ -z by omega) (by decide) (by omega)
      have e : -z * -z = z * z := by grind
      rw [e] at this; omega
    · refine Int.not_lt.1 fun hz => ?_
      have := Int.mul_le_mul (show (3000000000 : Int) ≤ z by omega) (show (3000000000 : Int) ≤ z by omega) (by decide) (by omega)
      omega
  have e0 := bd _ k0 (by omega)
  have e1 := bd _ k1 (by omega)
  have e2 := bd _ k2 (by omega)
  have dv : ∀ (N k : Int), 0 ≤ N → N ≤ 1000000 → 0 < k → IntKind.i64.wrap (N.tdiv k) = N.tdiv k := fun N k h1 h2 h3 => by
    have := tdiv_abs N k
    exact IntWalk.i64_in _ (by omega)
  have tn := turn_n x a b c
  rw [tn] at hN p1 p2 p3 q1 q2 q3 r1 r2 r3 ⊢
  refine ⟨x.n * x.n, _, _, _, _, _, _, _, _, _, _, _, _, _, _, _, _, _, IntWalk.i64_in _ (by omega),
    ⟨⟨by omega, by omega, by simp; omega⟩, p2, dv _ _ N0 N1 p1, (congrArg _ p3).trans (IntWalk.i64_in _ (by omega)), IntWalk.i64_in _ (by omega)⟩,
    ⟨⟨by omega, by omega, by simp; omega⟩, q2, dv _ _ N0 N1 q1, (congrArg _ q3).trans (IntWalk.i64_in _ (by omega)), IntWalk.i64_in _ (by omega)⟩,
    ⟨⟨by omega, by omega, by simp; omega⟩, r2, dv _ _ N0 N1 r1, (congrArg _ r3).trans (IntWalk.i64_in _ (by omega)), IntWalk.i64_in _ (by omega)⟩,
    ⟨IntWalk.i64_in _ (by omega), IntWalk.i64_in _ (by omega), (IntWalk.i64_in _ (by omega)).trans hS⟩,
    ⟨IntWalk.i64_in _ (by omega), IntWalk.i64_in _ (by omega), IntWalk.i64_in _ (by omega), IntWalk.i64_in _ (by omega), IntWalk.i64_in _ (by omega), IntWalk.i64_in _ (by omega), IntWalk.i64_in _ (by omega)⟩⟩

theorem rot_calls (x : Q) (a b c : Int) : ∃ (p q r : Int × Int) (er : Int), (er = 1 ∨ (er = 0 ∧ (x.n ≤ 1000 → RF x.n a b c p q r))) ∧
    ∀ W : World, Calls Try.prog 73 #[.agg #[.int .i64 x.a, .int .i64 x.b, .int .i64 x.c, .int .i64 x.d, .int .i64 x.n], .agg #[.int .i64 a, .int .i64 b, .int .i64 c]] W fun e w' => e = .returned (.tuple #[.agg #[.int .i64 p.1, .int .i64 p.2, .int .i64 q.1, .int .i64 q.2, .int .i64 r.1, .int .i64 r.2], .int .i64 er]) ∧ Below W.heap.size W w' := by
  by_cases h : V x
  · cases hv : vB a b c
    · exact ⟨(0, 0), (0, 0), (0, 0), 1, .inl rfl, fun W => rotate_far x a b c W h hv⟩
    · have hvb := vB_iff.1 hv
      exact ⟨_, _, _, 0, .inr ⟨rfl, fun hn => rf_of x a b c h hn hvb.1 hvb.2.1 hvb.2.2⟩, fun W => rotate_ok x a b c _ _ _ W h hv rfl⟩
  · exact ⟨(0, 0), (0, 0), (0, 0), 1, .inl rfl, fun W => rotate_bad x a b c W h⟩

theorem cay_calls (a b c d : Int) : ∃ (r : Q) (er : Int), (∀ W : World, Calls Try.prog 74 #[.agg #[.int .i64 a, .int .i64 b, .int .i64 c], .int .i64 d] W fun e w' => e = .returned (.tuple #[.agg #[.int .i64 r.a, .int .i64 r.b, .int .i64 r.c, .int .i64 r.d, .int .i64 r.n], .int .i64 er]) ∧ Below W.heap.size W w') ∧
    (er = 1 ∨ er = 3 ∨ (er = 0 ∧ IntKind.i64.wrap (-a) = -a ∧ IntKind.i64.wrap (-b) = -b ∧ IntKind.i64.wrap (-c) = -c ∧
      (∀ W : World, Calls Try.prog 74 #[.agg #[.int .i64 (-a), .int .i64 (-b), .int .i64 (-c)], .int .i64 d] W fun e w' => e = .returned (.tuple #[.agg #[.int .i64 (bar r).a, .int .i64 (bar r).b, .int .i64 (bar r).c, .int .i64 (bar r).d, .int .i64 (bar r).n], .int .i64 0]) ∧ Below W.heap.size W w') ∧
      (∀ W : World, Calls Try.prog 32 #[.agg #[.int .i64 r.a, .int .i64 r.b, .int .i64 r.c, .int .i64 r.d, .int .i64 r.n]] W fun e w' => e = .returned (.tuple #[.agg #[.int .i64 (bar r).a, .int .i64 (bar r).b, .int .i64 (bar r).c, .int .i64 (bar r).d, .int .i64 (bar r).n], .int .i64 0]) ∧ Below W.heap.size W w'))) := by
  cases hv : vB a b c
  · exact ⟨zero, 1, fun W => cayley_far a b c d W hv, .inl rfl⟩
  by_cases h1 : d < 1
  · exact ⟨zero, 1, fun W => cayley_d a b c d W hv (.inl h1), .inl rfl⟩
  by_cases h2 : 1000 < d
  · exact ⟨zero, 1, fun W => cayley_d a b c d W hv (.inr ⟨h1, h2⟩), .inl rfl⟩
  have hvb := vB_iff.1 hv
  by_cases hl : (low (cay a b c d)).n ≤ 1048576
  · have hr : cayR a b c d (low (cay a b c d)) 0 := .inl ⟨hl, rfl, rfl⟩
    have hvn : vB (-a) (-b) (-c) = true := vB_iff.2 (by omega)
    have V1 : V (low (cay a b c d)) := V.of_low (cay_len a b c d (by omega)) hl
    have hr' : cayR (-a) (-b) (-c) d (bar (low (cay a b c d))) 0 := .inl ⟨by rw [cay_neg, low_bar]; exact hl, by rw [cay_neg, low_bar], rfl⟩
    exact ⟨_, 0, fun W => cayley_ok a b c d _ _ W hv h1 h2 hr, .inr (.inr ⟨rfl, IntWalk.i64_in _ (by omega), IntWalk.i64_in _ (by omega), IntWalk.i64_in _ (by omega), fun W => cayley_ok (-a) (-b) (-c) d _ _ W hvn h1 h2 hr', fun W => inv_ok _ W V1⟩)⟩
  · have hr : cayR a b c d zero 3 := .inr ⟨by omega, rfl, rfl⟩
    exact ⟨_, 3, fun W => cayley_ok a b c d _ _ W hv h1 h2 hr, .inr (.inl rfl)⟩

theorem small_calls (n : Int) : ∃ (r : Q) (er : Int), (∀ W : World, Calls Try.prog 75 #[.int .i64 n] W fun e w' => e = .returned (.tuple #[.agg #[.int .i64 r.a, .int .i64 r.b, .int .i64 r.c, .int .i64 r.d, .int .i64 r.n], .int .i64 er]) ∧ Below W.heap.size W w') ∧
    (er = 1 ∨ (er = 0 ∧ ∃ k : Nat, k < 24 ∧ r = small k)) := by
  by_cases h : 0 ≤ n ∧ n ≤ 23
  · obtain ⟨k, rfl⟩ := Int.eq_ofNat_of_zero_le h.1
    exact ⟨small k, 0, fun W => small_any k W h.1 h.2, .inr ⟨rfl, k, by omega, rfl⟩⟩
  · exact ⟨zero, 1, fun W => small_bad n W (by omega), .inl rfl⟩

/-- what is called once both numbers name small units -/
theorem group_calls (g h : Q) (hg : ∃ k : Nat, k < 24 ∧ g = small k) (hh : ∃ k : Nat, k < 24 ∧ h = small k) : ∃ (r : Q) (j o : Int),
    (∀ W : World, Calls Try.prog 76 #[.agg #[.int .i64 g.a, .int .i64 g.b, .int .i64 g.c, .int .i64 g.d, .int .i64 g.n], .agg #[.int .i64 h.a, .int .i64 h.b, .int .i64 h.c, .int .i64 h.d, .int .i64 h.n]] W fun e w' => e = .returned (.tuple #[.agg #[.int .i64 r.a, .int .i64 r.b, .int .i64 r.c, .int .i64 r.d, .int .i64 r.n], .int .i64 0]) ∧ Below W.heap.size W w') ∧
    (∀ W : World, Calls Try.prog 77 #[.agg #[.int .i64 r.a, .int .i64 r.b, .int .i64 r.c, .int .i64 r.d, .int .i64 r.n]] W fun e w' => e = .returned (.tuple #[.int .i64 o, .int .i64 0]) ∧ Below W.heap.size W w') ∧
    (∀ W : World, Calls Try.prog 77 #[.agg #[.int .i64 h.a, .int .i64 h.b, .int .i64 h.c, .int .i64 h.d, .int .i64 h.n]] W fun e w' => e = .returned (.tuple #[.int .i64 o, .int .i64 0]) ∧ Below W.heap.size W w') ∧
    (∀ W : World, Calls Try.prog 67 #[.agg #[.int .i64 r.a, .int .i64 r.b, .int .i64 r.c, .int .i64 r.d, .int .i64 r.n]] W fun e w' => e = .returned (.tuple #[.int .i64 j, .bool true, .int .i64 0]) ∧ Below W.heap.size W w') ∧
    (0 < o ∧ ¬ o = 0 ∧ (o == 0) = false ∧ (12 : Int).tmod o = 0) := by
  obtain ⟨k, hk, rfl⟩ := hg
  obtain ⟨m, hm, rfl⟩ := hh
  have V1 := small_VT k hk
  have V2 := small_VT m hm
  obtain ⟨h1, h2, h3, h4, h5⟩ := small_conj k hk m hm
  obtain ⟨j, hj, hje⟩ := small_conj_ex k hk m hm
  have hV : V (small j) := small_VT j hj
  have hr : prodFrom one [small k, small m, bar (small k)] = (small j, 0) := by rw [hje, ← h1]
  have hO : ord (small j) = ord (small m) := by rw [hje]; exact h3
  have o1 := fun W : World => order_ok (small j) W hV
  rw [hO] at o1
  exact ⟨small j, j, ord (small m), fun W => conj_ok (small k) (small m) (small j) 0 W V1 V2 hr, o1, fun W => order_ok (small m) W V2, fun W => number_ok (small j) j true W hV (numR_smallT j hj),
    h4, by omega, by simp; omega, by rw [Int.tmod_eq_emod_of_nonneg (by decide)]; exact h5⟩

/-- a turned vector in memory -/
structure RB (wx : World) (n : Nat) (p q r : Int × Int) : Prop where
  c0 : wx.cell? ⟨n, 0, none⟩ = some (.int .i64 p.1)
  c1 : wx.cell? ⟨n, 1, none⟩ = some (.int .i64 p.2)
  c2 : wx.cell? ⟨n, 2, none⟩ = some (.int .i64 q.1)
  c3 : wx.cell? ⟨n, 3, none⟩ = some (.int .i64 q.2)
  c4 : wx.cell? ⟨n, 4, none⟩ = some (.int .i64 r.1)
  c5 : wx.cell? ⟨n, 5, none⟩ = some (.int .i64 r.2)

/-- what the two units leave in memory -/
structure PB (wx : World) (n2 n3 n4 n5 : Nat) (p q : Q) (ta tb : Int × Int) : Prop where
  p0 : wx.cell? ⟨n2, 0, none⟩ = some (.int .i64 p.a)
  p1 : wx.cell? ⟨n2, 1, none⟩ = some (.int .i64 p.b)
  p2 : wx.cell? ⟨n2, 2, none⟩ = some (.int .i64 p.c)
  p3 : wx.cell? ⟨n2, 3, none⟩ = some (.int .i64 p.d)
  p4 : wx.cell? ⟨n2, 4, none⟩ = some (.int .i64 p.n)
  q0 : wx.cell? ⟨n3, 0, none⟩ = some (.int .i64 q.a)
  q1 : wx.cell? ⟨n3, 1, none⟩ = some (.int .i64 q.b)
  q2 : wx.cell? ⟨n3, 2, none⟩ = some (.int .i64 q.c)
  q3 : wx.cell? ⟨n3, 3, none⟩ = some (.int .i64 q.d)
  q4 : wx.cell? ⟨n3, 4, none⟩ = some (.int .i64 q.n)
  a0 : wx.cell? ⟨n4, 0, none⟩ = some (.int .i64 ta.1)
  a1 : wx.cell? ⟨n4, 1, none⟩ = some (.int .i64 ta.2)
  b0 : wx.cell? ⟨n5, 0, none⟩ = some (.int .i64 tb.1)
  b1 : wx.cell? ⟨n5, 1, none⟩ = some (.int .i64 tb.2)

set_option maxHeartbeats 3200000 in
theorem topUnits_walk (x y : Q) (a b c d s t : Int) (w : World) : Calls Try.prog 17 #[.agg #[.int .i64 x.a, .int .i64 x.b, .int .i64 x.c, .int .i64 x.d, .int .i64 x.n], .agg #[.int .i64 y.a, .int .i64 y.b, .int .i64 y.c, .int .i64 y.d, .int .i64 y.n], .agg #[.int .i64 a, .int .i64 b, .int .i64 c, .int .i64 d, .int .i64 s, .int .i64 t]] w fun e w' => e = .returned (.bool true) ∧ Below w.heap.size w w' := by
  have kn := fun W : World => number_ok ⟨1, 1, 1, 1, 2⟩ 8 true W (show V (small 8) from small_V8) (show NumR (small 8) 8 true from numR_small8)
  have kc := @Tail.cell_re
  obtain ⟨i, p, q, e, f, g, h, j, ta, tb, hP, c1, c2, c3, c4, c5⟩ := pairs_ex x y
  go_enter Try.func17, Try.ntmps17
  go_upto_region 9 with (first | ((with_reducible refine (kn _).mono ?_); clear kn; rintro e w1 ⟨rfl, hw1⟩; have hc1 := Tail.cells hw1; have s1 := hw1.size; (try simp at s1); (try have z1_0 : w.heap.size < w1.heap.size := (by omega)); (try have z1_1 : w.heap.size + 1 < w1.heap.size := (by omega)); (try have z1_2 : w.heap.size + 2 < w1.heap.size := (by omega)); clear s1) | ((with_reducible refine (c1 _).mono ?_); clear c1; rintro e w2 ⟨rfl, hw2⟩; have hc2 := Tail.cells hw2; have s2 := hw2.size; (try simp at s2); (try have z2_0 : w.heap.size < w2.heap.size := (by omega)); (try have z2_1 : w.heap.size + 1 < w2.heap.size := (by omega)); (try have z2_2 : w.heap.size + 2 < w2.heap.size := (by omega)); (try have z2_3 : w1.heap.size < w2.heap.size := (by omega)); clear s2) | ((with_reducible refine (c2 _).mono ?_); clear c2; rintro e w3 ⟨rfl, hw3⟩; have hc3 := Tail.cells hw3; have s3 := hw3.size; (try simp at s3); (try have z3_0 : w.heap.size < w3.heap.size := (by omega)); (try have z3_1 : w.heap.size + 1 < w3.heap.size := (by omega)); (try have z3_2 : w.heap.size + 2 < w3.heap.size := (by omega)); (try have z3_3 : w1.heap.size < w3.heap.size := (by omega)); (try have z3_4 : w2.heap.size < w3.heap.size := (by omega)); clear s3) | ((with_reducible refine (c3 _).mono ?_); clear c3; rintro e w4 ⟨rfl, hw4⟩; have hc4 := Tail.cells hw4; have s4 := hw4.size; (try simp at s4); (try have z4_0 : w.heap.size < w4.heap.size := (by omega)); (try have z4_1 : w.heap.size + 1 < w4.heap.size := (by omega)); (try have z4_2 : w.heap.size + 2 < w4.heap.size := (by omega)); (try have z4_3 : w1.heap.size < w4.heap.size := (by omega)); (try have z4_4 : w2.heap.size < w4.heap.size := (by omega)); (try have z4_5 : w3.heap.size < w4.heap.size := (by omega)); clear s4) | ((with_reducible refine (c4 _).mono ?_); clear c4; rintro e w5 ⟨rfl, hw5⟩; have hc5 := Tail.cells hw5; have s5 := hw5.size; (try simp at s5); (try have z5_0 : w.heap.size < w5.heap.size := (by omega)); (try have z5_1 : w.heap.size + 1 < w5.heap.size := (by omega)); (try have z5_2 : w.heap.size + 2 < w5.heap.size := (by omega)); (try have z5_3 : w1.heap.size < w5.heap.size := (by omega)); (try have z5_4 : w2.heap.size < w5.heap.size := (by omega)); (try have z5_5 : w3.heap.size < w5.heap.size := (by omega)); (try have z5_6 : w4.heap.size < w5.heap.size := (by omega)); clear s5) | ((with_reducible refine (c5 _).mono ?_); clear c5; rintro e w6 ⟨rfl, hw6⟩; have hc6 := Tail.cells hw6; have s6 := hw6.size; (try simp at s6); (try have z6_0 : w.heap.size < w6.heap.size := (by omega)); (try have z6_1 : w.heap.size + 1 < w6.heap.size := (by omega)); (try have z6_2 : w.heap.size + 2 < w6.heap.size := (by omega)); (try have z6_3 : w1.heap.size < w6.heap.size := (by omega)); (try have z6_4 : w2.heap.size < w6.heap.size := (by omega)); (try have z6_5 : w3.heap.size < w6.heap.size := (by omega)); (try have z6_6 : w4.heap.size < w6.heap.size := (by omega)); (try have z6_7 : w5.heap.size < w6.heap.size := (by omega)); clear s6))
  go_cut [111] from 94 to 111 (fun s111 wx => ∃ B : Bool, s111 = .bool B ∧ (B = true → PairsOk x y i p q e f g h j ta tb ∧ PB wx w3.heap.size w4.heap.size w5.heap.size w6.heap.size p q ta tb) ∧ TB wx w.heap.size x y a b c d s t ∧ Below w.heap.size w wx ∧ w6.heap.size < wx.heap.size)
  case first =>
    have hT1 : TB w1 w.heap.size x y a b c d s t := by constructor <;> simp [go_sem, hc1]
    have hsz : w6.heap.size < (w6.alloc (.cells #[.int .i64 0, .int .i64 0] 81)).heap.size := by simp
    rcases hP with h1 | ⟨h1, h2 | h2⟩ | ⟨h1, h2, h3⟩ | hOk
    · subst h1
      go_wp2_with fail
      go_meet
      exact ⟨false, rfl, by simp, TB.later hT1 (by repeat (first | (with_reducible exact Below.refl _ _) | (with_reducible refine Below.setCell ?_ ?_ _) | (with_reducible refine Below.drew ?_) | (with_reducible refine Below.alloc ?_ ?_ _) | (with_reducible refine Below.trans ?_ (Below.mono hw6 ?_)) | (with_reducible refine Below.trans ?_ (Below.mono hw5 ?_)) | (with_reducible refine Below.trans ?_ (Below.mono hw4 ?_)) | (with_reducible refine Below.trans ?_ (Below.mono hw3 ?_)) | (with_reducible refine Below.trans ?_ (Below.mono hw2 ?_)) | (with_reducible exact hw6.size) | (with_reducible exact hw5.size) | (with_reducible exact hw4.size) | (with_reducible exact hw3.size) | (with_reducible exact hw2.size) | omega | (simp <;> omega) | (simp <;> (have s := hw6.size; omega)) | (simp <;> (have s := hw5.size; omega)) | (simp <;> (have s := hw4.size; omega)) | (simp <;> (have s := hw3.size; omega)) | (simp <;> (have s := hw2.size; omega)) | (have s0 := hw6.size; (try simp at s0); have s1 := hw5.size; (try simp at s1); have s2 := hw4.size; (try simp at s2); have s3 := hw3.size; (try simp at s3); have s4 := hw2.size; (try simp at s4); (try simp); omega))), by repeat (first | (with_reducible exact Below.refl _ _) | (with_reducible refine Below.setCell ?_ ?_ _) | (with_reducible refine Below.drew ?_) | (with_reducible refine Below.alloc ?_ ?_ _) | (with_reducible refine Below.trans ?_ (Below.mono hw6 ?_)) | (with_reducible refine Below.trans ?_ (Below.mono hw5 ?_)) | (with_reducible refine Below.trans ?_ (Below.mono hw4 ?_)) | (with_reducible refine Below.trans ?_ (Below.mono hw3 ?_)) | (with_reducible refine Below.trans ?_ (Below.mono hw2 ?_)) | (with_reducible refine Below.trans ?_ (Below.mono hw1 ?_)) | (with_reducible exact hw6.size) | (with_reducible exact hw5.size) | (with_reducible exact hw4.size) | (with_reducible exact hw3.size) | (with_reducible exact hw2.size) | (with_reducible exact hw1.size) | omega | (simp <;> omega) | (simp <;> (have s := hw6.size; omega)) | (simp <;> (have s := hw5.size; omega)) | (simp <;> (have s := hw4.size; omega)) | (simp <;> (have s := hw3.size; omega)) | (simp <;> (have s := hw2.size; omega)) | (simp <;> (have s := hw1.size; omega)) | (have s0 := hw6.size; (try simp at s0); have s1 := hw5.size; (try simp at s1); have s2 := hw4.size; (try simp at s2); have s3 := hw3.size; (try simp at s3); have s4 := hw2.size; (try simp at s4); have s5 := hw1.size; (try simp at s5); (try simp); omega)), by simp⟩
    · subst h1 h2
      go_wp2_with fail
      go_meet
      exact ⟨false, rfl, by simp, TB.later hT1 (by repeat (first | (with_reducible exact Below.refl _ _) | (with_reducible refine Below.setCell ?_ ?_ _) | (with_reducible refine Below.drew ?_) | (with_reducible refine Below.alloc ?_ ?_ _) | (with_reducible refine Below.trans ?_ (Below.mono hw6 ?_)) | (with_reducible refine Below.trans ?_ (Below.mono hw5 ?_)) | (with_reducible refine Below.trans ?_ (Below.mono hw4 ?_)) | (with_reducible refine Below.trans ?_ (Below.mono hw3 ?_)) | (with_reducible refine Below.trans ?_ (Below.mono hw2 ?_)) | (with_reducible exact hw6.size) | (with_reducible exact hw5.size) | (with_reducible exact hw4.size) | (with_reducible exact hw3.size) | (with_reducible exact hw2.size) | omega | (simp <;> omega) | (simp <;> (have s := hw6.size; omega)) | (simp <;> (have s := hw5.size; omega)) | (simp <;> (have s := hw4.size; omega)) | (simp <;> (have s := hw3.size; omega)) | (simp <;> (have s := hw2.size; omega)) | (have s0 := hw6.size; (try simp at s0); have s1 := hw5.size; (try simp at s1); have s2 := hw4.size; (try simp at s2); have s3 := hw3.size; (try simp at s3); have s4 := hw2.size; (try simp at s4); (try simp); omega))), by repeat (first | (with_reducible exact Below.refl _ _) | (with_reducible refine Below.setCell ?_ ?_ _) | (with_reducible refine Below.drew ?_) | (with_reducible refine Below.alloc ?_ ?_ _) | (with_reducible refine Below.trans ?_ (Below.mono hw6 ?_)) | (with_reducible refine Below.trans ?_ (Below.mono hw5 ?_)) | (with_reducible refine Below.trans ?_ (Below.mono hw4 ?_)) | (with_reducible refine Below.trans ?_ (Below.mono hw3 ?_)) | (with_reducible refine Below.trans ?_ (Below.mono hw2 ?_)) | (with_reducible refine Below.trans ?_ (Below.mono hw1 ?_)) | (with_reducible exact hw6.size) | (with_reducible exact hw5.size) | (with_reducible exact hw4.size) | (with_reducible exact hw3.size) | (with_reducible exact hw2.size) | (with_reducible exact hw1.size) | omega | (simp <;> omega) | (simp <;> (have s := hw6.size; omega)) | (simp <;> (have s := hw5.size; omega)) | (simp <;> (have s := hw4.size; omega)) | (simp <;> (have s := hw3.size; omega)) | (simp <;> (have s := hw2.size; omega)) | (simp <;> (have s := hw1.size; omega)) | (have s0 := hw6.size; (try simp at s0); have s1 := hw5.size; (try simp at s1); have s2 := hw4.size; (try simp at s2); have s3 := hw3.size; (try simp at s3); have s4 := hw2.size; (try simp at s4); have s5 := hw1.size; (try simp at s5); (try simp); omega)), by simp⟩
    · subst h1 h2
      go_wp2_with fail
      go_meet
      exact ⟨false, rfl, by simp, TB.later hT1 (by repeat (first | (with_reducible exact Below.refl _ _) | (with_reducible refine Below.setCell ?_ ?_ _) | (with_reducible refine Below.drew ?_) | (with_reducible refine Below.alloc ?_ ?_ _) | (with_reducible refine Below.trans ?_ (Below.mono hw6 ?_)) | (with_reducible refine Below.trans ?_ (Below.mono hw5 ?_)) | (with_reducible refine Below.trans ?_ (Below.mono hw4 ?_)) | (with_reducible refine Below.trans ?_ (Below.mono hw3 ?_)) | (with_reducible refine Below.trans ?_ (Below.mono hw2 ?_)) | (with_reducible exact hw6.size) | (with_reducible exact hw5.size) | (with_reducible exact hw4.size) | (with_reducible exact hw3.size) | (with_reducible exact hw2.size) | omega | (simp <;> omega) | (simp <;> (have s := hw6.size; omega)) | (simp <;> (have s := hw5.size; omega)) | (simp <;> (have s := hw4.size; omega)) | (simp <;> (have s := hw3.size; omega)) | (simp <;> (have s := hw2.size; omega)) | (have s0 := hw6.size; (try simp at s0); have s1 := hw5.size; (try simp at s1); have s2 := hw4.size; (try simp at s2); have s3 := hw3.size; (try simp at s3); have s4 := hw2.size; (try simp at s4); (try simp); omega))), by repeat (first | (with_reducible exact Below.refl _ _) | (with_reducible refine Below.setCell ?_ ?_ _) | (with_reducible refine Below.drew ?_) | (with_reducible refine Below.alloc ?_ ?_ _) | (with_reducible refine Below.trans ?_ (Below.mono hw6 ?_)) | (with_reducible refine Below.trans ?_ (Below.mono hw5 ?_)) | (with_reducible refine Below.trans ?_ (Below.mono hw4 ?_)) | (with_reducible refine Below.trans ?_ (Below.mono hw3 ?_)) | (with_reducible refine Below.trans ?_ (Below.mono hw2 ?_)) | (with_reducible refine Below.trans ?_ (Below.mono hw1 ?_)) | (with_reducible exact hw6.size) | (with_reducible exact hw5.size) | (with_reducible exact hw4.size) | (with_reducible exact hw3.size) | (with_reducible exact hw2.size) | (with_reducible exact hw1.size) | omega | (simp <;> omega) | (simp <;> (have s := hw6.size; omega)) | (simp <;> (have s := hw5.size; omega)) | (simp <;> (have s := hw4.size; omega)) | (simp <;> (have s := hw3.size; omega)) | (simp <;> (have s := hw2.size; omega)) | (simp <;> (have s := hw1.size; omega)) | (have s0 := hw6.size; (try simp at s0); have s1 := hw5.size; (try simp at s1); have s2 := hw4.size; (try simp at s2); have s3 := hw3.size; (try simp at s3); have s4 := hw2.size; (try simp at s4); have s5 := hw1.size; (try simp at s5); (try simp); omega)), by simp⟩
    · subst h1 h2 h3
      go_wp2_with fail
      go_meet
      exact ⟨false, rfl, by simp, TB.later hT1 (by repeat (first | (with_reducible exact Below.refl _ _) | (with_reducible refine Below.setCell ?_ ?_ _) | (with_reducible refine Below.drew ?_) | (with_reducible refine Below.alloc ?_ ?_ _) | (with_reducible refine Below.trans ?_ (Below.mono hw6 ?_)) | (with_reducible refine Below.trans ?_ (Below.mono hw5 ?_)) | (with_reducible refine Below.trans ?_ (Below.mono hw4 ?_)) | (with_reducible refine Below.trans ?_ (Below.mono hw3 ?_)) | (with_reducible refine Below.trans ?_ (Below.mono hw2 ?_)) | (with_reducible exact hw6.size) | (with_reducible exact hw5.size) | (with_reducible exact hw4.size) | (with_reducible exact hw3.size) | (with_reducible exact hw2.size) | omega | (simp <;> omega) | (simp <;> (have s := hw6.size; omega)) | (simp <;> (have s := hw5.size; omega)) | (simp <;> (have s := hw4.size; omega)) | (simp <;> (have s := hw3.size; omega)) | (simp <;> (have s := hw2.size; omega)) | (have s0 := hw6.size; (try simp at s0); have s1 := hw5.size; (try simp at s1); have s2 := hw4.size; (try simp at s2); have s3 := hw3.size; (try simp at s3); have s4 := hw2.size; (try simp at s4); (try simp); omega))), by repeat (first | (with_reducible exact Below.refl _ _) | (with_reducible refine Below.setCell ?_ ?_ _) | (with_reducible refine Below.drew ?_) | (with_reducible refine Below.alloc ?_ ?_ _) | (with_reducible refine Below.trans ?_ (Below.mono hw6 ?_)) | (with_reducible refine Below.trans ?_ (Below.mono hw5 ?_)) | (with_reducible refine Below.trans ?_ (Below.mono hw4 ?_)) | (with_reducible refine Below.trans ?_ (Below.mono hw3 ?_)) | (with_reducible refine Below.trans ?_ (Below.mono hw2 ?_)) | (with_reducible refine Below.trans ?_ (Below.mono hw1 ?_)) | (with_reducible exact hw6.size) | (with_reducible exact hw5.size) | (with_reducible exact hw4.size) | (with_reducible exact hw3.size) | (with_reducible exact hw2.size) | (with_reducible exact hw1.size) | omega | (simp <;> omega) | (simp <;> (have s := hw6.size; omega)) | (simp <;> (have s := hw5.size; omega)) | (simp <;> (have s := hw4.size; omega)) | (simp <;> (have s := hw3.size; omega)) | (simp <;> (have s := hw2.size; omega)) | (simp <;> (have s := hw1.size; omega)) | (have s0 := hw6.size; (try simp at s0); have s1 := hw5.size; (try simp at s1); have s2 := hw4.size; (try simp at s2); have s3 := hw3.size; (try simp at s3); have s4 := hw2.size; (try simp at s4); have s5 := hw1.size; (try simp at s5); (try simp); omega)), by simp⟩
    · have hOk' := hOk
      obtain ⟨h1, h2, h3, h4, h5, -, -, -, -, -, -, -, -, -⟩ := hOk
      subst h1 h2 h3 h4 h5
      replace hOk' := Lib.hid hOk'
      go_wp2_with fail
      go_meet
      exact ⟨true, rfl, fun _ => ⟨hOk'.out, by constructor <;> simp [go_sem, *]⟩, TB.later hT1 (by repeat (first | (with_reducible exact Below.refl _ _) | (with_reducible refine Below.setCell ?_ ?_ _) | (with_reducible refine Below.drew ?_) | (with_reducible refine Below.alloc ?_ ?_ _) | (with_reducible refine Below.trans ?_ (Below.mono hw6 ?_)) | (with_reducible refine Below.trans ?_ (Below.mono hw5 ?_)) | (with_reducible refine Below.trans ?_ (Below.mono hw4 ?_)) | (with_reducible refine Below.trans ?_ (Below.mono hw3 ?_)) | (with_reducible refine Below.trans ?_ (Below.mono hw2 ?_)) | (with_reducible exact hw6.size) | (with_reducible exact hw5.size) | (with_reducible exact hw4.size) | (with_reducible exact hw3.size) | (with_reducible exact hw2.size) | omega | (simp <;> omega) | (simp <;> (have s := hw6.size; omega)) | (simp <;> (have s := hw5.size; omega)) | (simp <;> (have s := hw4.size; omega)) | (simp <;> (have s := hw3.size; omega)) | (simp <;> (have s := hw2.size; omega)) | (have s0 := hw6.size; (try simp at s0); have s1 := hw5.size; (try simp at s1); have s2 := hw4.size; (try simp at s2); have s3 := hw3.size; (try simp at s3); have s4 := hw2.size; (try simp at s4); (try simp); omega))), by repeat (first | (with_reducible exact Below.refl _ _) | (with_reducible refine Below.setCell ?_ ?_ _) | (with_reducible refine Below.drew ?_) | (with_reducible refine Below.alloc ?_ ?_ _) | (with_reducible refine Below.trans ?_ (Below.mono hw6 ?_)) | (with_reducible refine Below.trans ?_ (Below.mono hw5 ?_)) | (with_reducible refine Below.trans ?_ (Below.mono hw4 ?_)) | (with_reducible refine Below.trans ?_ (Below.mono hw3 ?_)) | (with_reducible refine Below.trans ?_ (Below.mono hw2 ?_)) | (with_reducible refine Below.trans ?_ (Below.mono hw1 ?_)) | (with_reducible exact hw6.size) | (with_reducible exact hw5.size) | (with_reducible exact hw4.size) | (with_reducible exact hw3.size) | (with_reducible exact hw2.size) | (with_reducible exact hw1.size) | omega | (simp <;> omega) | (simp <;> (have s := hw6.size; omega)) | (simp <;> (have s := hw5.size; omega)) | (simp <;> (have s := hw4.size; omega)) | (simp <;> (have s := hw3.size; omega)) | (simp <;> (have s := hw2.size; omega)) | (simp <;> (have s := hw1.size; omega)) | (have s0 := hw6.size; (try simp at s0); have s1 := hw5.size; (try simp at s1); have s2 := hw4.size; (try simp at s2); have s3 := hw3.size; (try simp at s3); have s4 := hw2.size; (try simp at s4); have s5 := hw1.size; (try simp at s5); (try simp); omega)), by simp⟩
  case rest =>
    obtain ⟨B, rfl, hB, hT, hb, hs⟩ := hcut
    clear hP
    go_upto_if 111 with fail
    go_cut [] from 112 to 225 (fun wx => TB wx w.heap.size x y a b c d s t ∧ Below w.heap.size w wx ∧ w.heap.size + 3 ≤ wx.heap.size)
    case first =>
      cases B
      · clear hB
        go_wp2_with fail
        go_meet
        exact ⟨hT, hb, by omega⟩
      · as_aux_lemma =>
          obtain ⟨hOk, hQ⟩ := hB rfl
          clear hB
          obtain ⟨tc, td, rr, dr, D, ⟨t1, t2, r1, r2, d1, d2, d3⟩, ⟨b1, b2, b3, b4, b5, b6⟩, u1, u2, u3, u4, u5, u6⟩ := pairs_calls hOk
          have ro := fun W : World => refOne_any W
          clear hOk hw1 hw2 hw3 hw4 hw5 hw6 hc1 hc2 hc3 hc4 hc5 hc6
          obtain ⟨y0, y1, y2, y3, y4⟩ : w.heap.size < wc.heap.size ∧ w.heap.size + 1 < wc.heap.size ∧ w.heap.size + 2 < wc.heap.size ∧ w3.heap.size < wc.heap.size ∧ w4.heap.size < wc.heap.size := by omega
          have y5 : w5.heap.size < wc.heap.size := by omega
          have hT' := hT
          obtain ⟨cx0, cx1, cx2, cx3, cx4, cy0, cy1, cy2, cy3, cy4, cz0, cz1, cz2, cz3, cz4, cz5⟩ := hT'
          obtain ⟨cp0, cp1, cp2, cp3, cp4, cq0, cq1, cq2, cq3, cq4, ca0, ca1, cb0, cb1⟩ := hQ
          go_wp2_with (first | ((with_reducible refine (t1 _).mono ?_); clear t1; rintro e w11 ⟨rfl, hw11⟩; have hc11 := Tail.cells hw11; have s11 := hw11.size; (try simp at s11); (try have z11_0 : w.heap.size < w11.heap.size := (by omega)); (try have z11_1 : w.heap.size+1 < w11.heap.size := (by omega)); (try have z11_2 : w.heap.size+2 < w11.heap.size := (by omega)); (try have z11_3 : w3.heap.size < w11.heap.size := (by omega)); (try have z11_4 : w4.heap.size < w11.heap.size := (by omega)); (try have z11_5 : w5.heap.size < w11.heap.size := (by omega)); (try have z11_6 : w6.heap.size < w11.heap.size := (by omega)); clear s11) | ((with_reducible refine (t2 _).mono ?_); clear t2; rintro e w12 ⟨rfl, hw12⟩; have hc12 := Tail.cells hw12; have s12 := hw12.size; (try simp at s12); (try have z12_0 : w.heap.size < w12.heap.size := (by omega)); (try have z12_1 : w.heap.size+1 < w12.heap.size := (by omega)); (try have z12_2 : w.heap.size+2 < w12.heap.size := (by omega)); (try have z12_3 : w3.heap.size < w12.heap.size := (by omega)); (try have z12_4 : w4.heap.size < w12.heap.size := (by omega)); (try have z12_5 : w5.heap.size < w12.heap.size := (by omega)); (try have z12_6 : w6.heap.size < w12.heap.size := (by omega)); (try have z12_7 : w11.heap.size < w12.heap.size := (by omega)); clear s12))
          refine Tail.region_below (by kernel_rfl) (by kernel_rfl) ?_
          repeat (go_big_quiet_step (first | (with_reducible exact Calls.regrown_of (r1 _)) | (with_reducible exact Calls.regrown_of (r2 _))))
          refine wpQuiet_nil ?_
          intro w19 hw19
          have hc19 := Tail.cells hw19
          have s19 := hw19.size
          simp at s19
          obtain ⟨v0, v1, v2, v3, v4, v5⟩ : w.heap.size < w19.heap.size ∧ w.heap.size + 1 < w19.heap.size ∧ w.heap.size + 2 < w19.heap.size ∧ w3.heap.size < w19.heap.size ∧ w4.heap.size < w19.heap.size ∧ w6.heap.size < w19.heap.size := by omega
          clear s19
          go_wp2_with (first | ((with_reducible refine (d1 _).mono ?_); clear d1; rintro e w21 ⟨rfl, hw21⟩; have hc21 := Tail.cells hw21; have s21 := hw21.size; (try simp at s21); (try have z21_0 : w.heap.size < w21.heap.size := (by omega)); (try have z21_1 : w.heap.size+1 < w21.heap.size := (by omega)); (try have z21_2 : w.heap.size+2 < w21.heap.size := (by omega)); (try have z21_3 : w3.heap.size < w21.heap.size := (by omega)); (try have z21_4 : w4.heap.size < w21.heap.size := (by omega)); (try have z21_5 : w5.heap.size < w21.heap.size := (by omega)); (try have z21_6 : w6.heap.size < w21.heap.size := (by omega)); clear s21) | ((with_reducible refine (d2 _).mono ?_); clear d2; rintro e w22 ⟨rfl, hw22⟩; have hc22 := Tail.cells hw22; have s22 := hw22.size; (try simp at s22); (try have z22_0 : w.heap.size < w22.heap.size := (by omega)); (try have z22_1 : w.heap.size+1 < w22.heap.size := (by omega)); (try have z22_2 : w.heap.size+2 < w22.heap.size := (by omega)); (try have z22_3 : w3.heap.size < w22.heap.size := (by omega)); (try have z22_4 : w4.heap.size < w22.heap.size := (by omega)); (try have z22_5 : w5.heap.size < w22.heap.size := (by omega)); (try have z22_6 : w6.heap.size < w22.heap.size := (by omega)); (try have z22_7 : w21.heap.size < w22.heap.size := (by omega)); clear s22) | ((with_reducible refine (ro _).mono ?_); clear ro; rintro e w23 ⟨rfl, hw23⟩; have hc23 := Tail.cells hw23; have s23 := hw23.size; (try simp at s23); (try have z23_0 : w.heap.size < w23.heap.size := (by omega)); (try have z23_1 : w.heap.size+1 < w23.heap.size := (by omega)); (try have z23_2 : w.heap.size+2 < w23.heap.size := (by omega)); (try have z23_3 : w3.heap.size < w23.heap.size := (by omega)); (try have z23_4 : w4.heap.size < w23.heap.size := (by omega)); (try have z23_5 : w5.heap.size < w23.heap.size := (by omega)); (try have z23_6 : w6.heap.size < w23.heap.size := (by omega)); (try have z23_7 : w21.heap.size < w23.heap.size := (by omega)); (try have z23_8 : w22.heap.size < w23.heap.size := (by omega)); clear s23) | ((with_reducible refine (d3 _).mono ?_); clear d3; rintro e w24 ⟨rfl, hw24⟩; have hc24 := Tail.cells hw24; have s24 := hw24.size; (try simp at s24); (try have z24_0 : w.heap.size < w24.heap.size := (by omega)); (try have z24_1 : w.heap.size+1 < w24.heap.size := (by omega)); (try have z24_2 : w.heap.size+2 < w24.heap.size := (by omega)); (try have z24_3 : w3.heap.size < w24.heap.size := (by omega)); (try have z24_4 : w4.heap.size < w24.heap.size := (by omega)); (try have z24_5 : w5.heap.size < w24.heap.size := (by omega)); (try have z24_6 : w6.heap.size < w24.heap.size := (by omega)); (try have z24_7 : w21.heap.size < w24.heap.size := (by omega)); (try have z24_8 : w22.heap.size < w24.heap.size := (by omega)); (try have z24_9 : w23.heap.size < w24.heap.size := (by omega)); clear s24))
          go_meet
          exact ⟨TB.later hT (by repeat (first | (with_reducible exact Below.refl _ _) | (with_reducible refine Below.setCell ?_ ?_ _) | (with_reducible refine Below.drew ?_) | (with_reducible refine Below.alloc ?_ ?_ _) | (with_reducible refine Below.trans ?_ (Below.mono hw24 ?_)) | (with_reducible refine Below.trans ?_ (Below.mono hw23 ?_)) | (with_reducible refine Below.trans ?_ (Below.mono hw22 ?_)) | (with_reducible refine Below.trans ?_ (Below.mono hw21 ?_)) | (with_reducible refine Below.trans ?_ (Below.mono hw19 ?_)) | (with_reducible refine Below.trans ?_ (Below.mono hw12 ?_)) | (with_reducible refine Below.trans ?_ (Below.mono hw11 ?_)) | (with_reducible exact hw24.size) | (with_reducible exact hw23.size) | (with_reducible exact hw22.size) | (with_reducible exact hw21.size) | (with_reducible exact hw19.size) | (with_reducible exact hw12.size) | (with_reducible exact hw11.size) | omega | (simp <;> omega) | (simp <;> (have s := hw24.size; omega)) | (simp <;> (have s := hw23.size; omega)) | (simp <;> (have s := hw22.size; omega)) | (simp <;> (have s := hw21.size; omega)) | (simp <;> (have s := hw19.size; omega)) | (simp <;> (have s := hw12.size; omega)) | (simp <;> (have s := hw11.size; omega)) | (have s0 := hw24.size; (try simp at s0); have s1 := hw23.size; (try simp at s1); have s2 := hw22.size; (try simp at s2); have s3 := hw21.size; (try simp at s3); have s4 := hw19.size; (try simp at s4); have s5 := hw12.size; (try simp at s5); have s6 := hw11.size; (try simp at s6); (try simp); omega))), by repeat (first | (with_reducible exact Below.refl _ _) | (with_reducible refine Below.setCell ?_ ?_ _) | (with_reducible refine Below.drew ?_) | (with_reducible refine Below.alloc ?_ ?_ _) | (with_reducible refine Below.trans ?_ (Below.mono hw24 ?_)) | (with_reducible refine Below.trans ?_ (Below.mono hw23 ?_)) | (with_reducible refine Below.trans ?_ (Below.mono hw22 ?_)) | (with_reducible refine Below.trans ?_ (Below.mono hw21 ?_)) | (with_reducible refine Below.trans ?_ (Below.mono hw19 ?_)) | (with_reducible refine Below.trans ?_ (Below.mono hw12 ?_)) | (with_reducible refine Below.trans ?_ (Below.mono hw11 ?_)) | (with_reducible refine Below.trans ?_ (Below.mono hb ?_)) | (with_reducible exact hw24.size) | (with_reducible exact hw23.size) | (with_reducible exact hw22.size) | (with_reducible exact hw21.size) | (with_reducible exact hw19.size) | (with_reducible exact hw12.size) | (with_reducible exact hw11.size) | (with_reducible exact hb.size) | omega | (simp <;> omega) | (simp <;> (have s := hw24.size; omega)) | (simp <;> (have s := hw23.size; omega)) | (simp <;> (have s := hw22.size; omega)) | (simp <;> (have s := hw21.size; omega)) | (simp <;> (have s := hw19.size; omega)) | (simp <;> (have s := hw12.size; omega)) | (simp <;> (have s := hw11.size; omega)) | (simp <;> (have s := hb.size; omega)) | (have s0 := hw24.size; (try simp at s0); have s1 := hw23.size; (try simp at s1); have s2 := hw22.size; (try simp at s2); have s3 := hw21.size; (try simp at s3); have s4 := hw19.size; (try simp at s4); have s5 := hw12.size; (try simp at s5); have s6 := hw11.size; (try simp at s6); have s7 := hb.size; (try simp at s7); (try simp); omega)), by repeat (first | (with_reducible exact Below.refl _ _) | (with_reducible refine Below.setCell ?_ ?_ _) | (with_reducible refine Below.drew ?_) | (with_reducible refine Below.alloc ?_ ?_ _) | (with_reducible refine Below.trans ?_ (Below.mono hw24 ?_)) | (with_reducible refine Below.trans ?_ (Below.mono hw23 ?_)) | (with_reducible refine Below.trans ?_ (Below.mono hw22 ?_)) | (with_reducible refine Below.trans ?_ (Below.mono hw21 ?_)) | (with_reducible refine Below.trans ?_ (Below.mono hw19 ?_)) | (with_reducible refine Below.trans ?_ (Below.mono hw12 ?_)) | (with_reducible refine Below.trans ?_ (Below.mono hw11 ?_)) | (with_reducible refine Below.trans ?_ (Below.mono hb ?_)) | (with_reducible exact hw24.size) | (with_reducible exact hw23.size) | (with_reducible exact hw22.size) | (with_reducible exact hw21.size) | (with_reducible exact hw19.size) | (with_reducible exact hw12.size) | (with_reducible exact hw11.size) | (with_reducible exact hb.size) | omega | (simp <;> omega) | (simp <;> (have s := hw24.size; omega)) | (simp <;> (have s := hw23.size; omega)) | (simp <;> (have s := hw22.size; omega)) | (simp <;> (have s := hw21.size; omega)) | (simp <;> (have s := hw19.size; omega)) | (simp <;> (have s := hw12.size; omega)) | (simp <;> (have s := hw11.size; omega)) | (simp <;> (have s := hb.size; omega)) | (have s0 := hw24.size; (try simp at s0); have s1 := hw23.size; (try simp at s1); have s2 := hw22.size; (try simp at s2); have s3 := hw21.size; (try simp at s3); have s4 := hw19.size; (try simp at s4); have s5 := hw12.size; (try simp at s5); have s6 := hw11.size; (try simp at s6); have s7 := hb.size; (try simp at s7); (try simp); omega))⟩
    case rest =>
      obtain ⟨hT1, hb1, hs1⟩ := hcut
      clear hB hT hb hs hw1 hw2 hw3 hw4 hw5 hw6 hc1 hc2 hc3 hc4 hc5 hc6
      obtain ⟨p2, q2, r2, er, hR, cR⟩ := rot_calls x a b c
      have hT' := hT1
      obtain ⟨cx0, cx1, cx2, cx3, cx4, cy0, cy1, cy2, cy3, cy4, cz0, cz1, cz2, cz3, cz4, cz5⟩ := hT'
      obtain ⟨v0, v1, v2⟩ : w.heap.size < wc.heap.size ∧ w.heap.size + 1 < wc.heap.size ∧ w.heap.size + 2 < wc.heap.size := by omega
      go_upto_region 23 with (first | ((with_reducible refine (cR _).mono ?_); clear cR; rintro e w31 ⟨rfl, hw31⟩; have hc31 := Tail.cells hw31; have s31 := hw31.size; (try simp at s31); (try have z31_0 : w.heap.size < w31.heap.size := (by omega)); (try have z31_1 : w.heap.size+1 < w31.heap.size := (by omega)); (try have z31_2 : w.heap.size+2 < w31.heap.size := (by omega)); clear s31))
      go_cut [239] from 233 to 239 (fun s239 wx => ∃ B : Bool, s239 = .bool B ∧ (B = true → RF x.n a b c p2 q2 r2 ∧ RB wx w31.heap.size p2 q2 r2) ∧ TB wx w.heap.size x y a b c d s t ∧ Below w.heap.size w wx ∧ w31.heap.size < wx.heap.size ∧ w.heap.size + 3 ≤ wx.heap.size)
      case first =>
        rcases hR with h1 | ⟨h1, h2⟩
        · subst h1
          go_wp2_with fail
          go_meet
          exact ⟨false, rfl, by simp, TB.later hT1 (by repeat (first | (with_reducible exact Below.refl _ _) | (with_reducible refine Below.setCell ?_ ?_ _) | (with_reducible refine Below.drew ?_) | (with_reducible refine Below.alloc ?_ ?_ _) | (with_reducible refine Below.trans ?_ (Below.mono hw31 ?_)) | (with_reducible exact hw31.size) | omega | (simp <;> omega) | (simp <;> (have s := hw31.size; omega)) | (have s0 := hw31.size; (try simp at s0); (try simp); omega))), by repeat (first | (with_reducible exact Below.refl _ _) | (with_reducible refine Below.setCell ?_ ?_ _) | (with_reducible refine Below.drew ?_) | (with_reducible refine Below.alloc ?_ ?_ _) | (with_reducible refine Below.trans ?_ (Below.mono hw31 ?_)) | (with_reducible refine Below.trans ?_ (Below.mono hb1 ?_)) | (with_reducible exact hw31.size) | (with_reducible exact hb1.size) | omega | (simp <;> omega) | (simp <;> (have s := hw31.size; omega)) | (simp <;> (have s := hb1.size; omega)) | (have s0 := hw31.size; (try simp at s0); have s1 := hb1.size; (try simp at s1); (try simp); omega)), by simp, by simp; omega⟩
        · subst h1
          by_cases hn : x.n ≤ 1000
          · replace h2 := Lib.hid (h2 hn)
            go_wp2_with fail
            go_meet
            exact ⟨true, rfl, fun _ => ⟨h2.out, by constructor <;> simp [go_sem]⟩, TB.later hT1 (by repeat (first | (with_reducible exact Below.refl _ _) | (with_reducible refine Below.setCell ?_ ?_ _) | (with_reducible refine Below.drew ?_) | (with_reducible refine Below.alloc ?_ ?_ _) | (with_reducible refine Below.trans ?_ (Below.mono hw31 ?_)) | (with_reducible exact hw31.size) | omega | (simp <;> omega) | (simp <;> (have s := hw31.size; omega)) | (have s0 := hw31.size; (try simp at s0); (try simp); omega))), by repeat (first | (with_reducible exact Below.refl _ _) | (with_reducible refine Below.setCell ?_ ?_ _) | (with_reducible refine Below.drew ?_) | (with_reducible refine Below.alloc ?_ ?_ _) | (with_reducible refine Below.trans ?_ (Below.mono hw31 ?_)) | (with_reducible refine Below.trans ?_ (Below.mono hb1 ?_)) | (with_reducible exact hw31.size) | (with_reducible exact hb1.size) | omega | (simp <;> omega) | (simp <;> (have s := hw31.size; omega)) | (simp <;> (have s := hb1.size; omega)) | (have s0 := hw31.size; (try simp at s0); have s1 := hb1.size; (try simp at s1); (try simp); omega)), by simp, by simp; omega⟩
          · clear h2
            go_wp2_with fail
            go_meet
            exact ⟨false, rfl, by simp, TB.later hT1 (by repeat (first | (with_reducible exact Below.refl _ _) | (with_reducible refine Below.setCell ?_ ?_ _) | (with_reducible refine Below.drew ?_) | (with_reducible refine Below.alloc ?_ ?_ _) | (with_reducible refine Below.trans ?_ (Below.mono hw31 ?_)) | (with_reducible exact hw31.size) | omega | (simp <;> omega) | (simp <;> (have s := hw31.size; omega)) | (have s0 := hw31.size; (try simp at s0); (try simp); omega))), by repeat (first | (with_reducible exact Below.refl _ _) | (with_reducible refine Below.setCell ?_ ?_ _) | (with_reducible refine Below.drew ?_) | (with_reducible refine Below.alloc ?_ ?_ _) | (with_reducible refine Below.trans ?_ (Below.mono hw31 ?_)) | (with_reducible refine Below.trans ?_ (Below.mono hb1 ?_)) | (with_reducible exact hw31.size) | (with_reducible exact hb1.size) | omega | (simp <;> omega) | (simp <;> (have s := hw31.size; omega)) | (simp <;> (have s := hb1.size; omega)) | (have s0 := hw31.size; (try simp at s0); have s1 := hb1.size; (try simp at s1); (try simp); omega)), by simp, by simp; omega⟩
      case rest =>
        obtain ⟨B2, rfl, hB2, hT2, hb2, hs2, hs3⟩ := hcut
        clear hR cx0 cx1 cx2 cx3 cx4 cy0 cy1 cy2 cy3 cy4 cz0 cz1 cz2 cz3 cz4 cz5 v0 v1 v2 hw31 hc31 hT1 hb1
        go_upto_if 239 with fail
        go_cut [] from 240 to 307 (fun wx => TB wx w.heap.size x y a b c d s t ∧ Below w.heap.size w wx ∧ w.heap.size + 3 ≤ wx.heap.size)
        case first =>
          cases B2
          · clear hB2
            go_wp2_with fail
            go_meet
            exact ⟨hT2, hb2, hs3⟩
          · as_aux_lemma =>
              obtain ⟨hRF, hRB⟩ := hB2 rfl
              clear hB2
              obtain ⟨N, D0, D1, D2, n0, n1, n2, s0, s1, s2, s01, S, A, B, C, AB, L, M, e0, ⟨⟨f1, f2, f3⟩, f4, f5, f6, f7⟩, ⟨⟨g1, g2, g3⟩, g4, g5, g6, g7⟩, ⟨⟨h1, h2, h3⟩, h4, h5, h6, h7⟩, ⟨i1, i2, i3⟩, j1, j2, j3, j4, j5, j6, j7⟩ := hRF
              obtain ⟨k0, k1, k2, k3, k4, k5⟩ := hRB
              have hT' := hT2
              obtain ⟨cx0, cx1, cx2, cx3, cx4, cy0, cy1, cy2, cy3, cy4, cz0, cz1, cz2, cz3, cz4, cz5⟩ := hT'
              obtain ⟨v0, v1, v2⟩ : w.heap.size < wc.heap.size ∧ w.heap.size + 1 < wc.heap.size ∧ w.heap.size + 2 < wc.heap.size := by omega
              go_wp2_with fail
              refine wp_loop_rounds 4 ?_
              rw [rounds_succ]
              go_wp2_with fail
              refine Tail.region_below (by kernel_rfl) (by kernel_rfl) ?_
              repeat (go_big_quiet_step (fail))
              refine wpQuiet_nil ?_
              intro w41 hw41
              have hc41 := Tail.cells hw41
              have s41 := hw41.size
              obtain ⟨y410, y412, y413⟩ : w.heap.size < w41.heap.size ∧ w.heap.size + 2 < w41.heap.size ∧ w31.heap.size < w41.heap.size := by omega
              clear s41
              go_wp2_with fail
              rw [rounds_succ]
              go_wp2_with fail
              refine Tail.region_below (by kernel_rfl) (by kernel_rfl) ?_
              repeat (go_big_quiet_step (fail))
              refine wpQuiet_nil ?_
              intro w42 hw42
              have hc42 := Tail.cells hw42
              have s42 := hw42.size
              obtain ⟨y420, y422, y423⟩ : w.heap.size < w42.heap.size ∧ w.heap.size + 2 < w42.heap.size ∧ w31.heap.size < w42.heap.size := by omega
              clear s42
              go_wp2_with fail
              rw [rounds_succ]
              go_wp2_with fail
              refine Tail.region_below (by kernel_rfl) (by kernel_rfl) ?_
              repeat (go_big_quiet_step (fail))
              refine wpQuiet_nil ?_
              intro w43 hw43
              have hc43 := Tail.cells hw43
              have s43 := hw43.size
              obtain ⟨y430, y432, y433⟩ : w.heap.size < w43.heap.size ∧ w.heap.size + 2 < w43.heap.size ∧ w31.heap.size < w43.heap.size := by omega
              clear s43
              go_wp2_with fail
              rw [rounds_succ]
              go_wp2_with fail
              go_meet
              exact ⟨TB.later hT2 (by repeat (first | (with_reducible exact Below.refl _ _) | (with_reducible refine Below.setCell ?_ ?_ _) | (with_reducible refine Below.drew ?_) | (with_reducible refine Below.alloc ?_ ?_ _) | (with_reducible refine Below.trans ?_ (Below.mono hw43 ?_)) | (with_reducible refine Below.trans ?_ (Below.mono hw42 ?_)) | (with_reducible refine Below.trans ?_ (Below.mono hw41 ?_)) | (with_reducible exact hw43.size) | (with_reducible exact hw42.size) | (with_reducible exact hw41.size) | omega | (simp <;> omega) | (simp <;> (have s := hw43.size; omega)) | (simp <;> (have s := hw42.size; omega)) | (simp <;> (have s := hw41.size; omega)) | (have s0 := hw43.size; (try simp at s0); have s1 := hw42.size; (try simp at s1); have s2 := hw41.size; (try simp at s2); (try simp); omega))), by repeat (first | (with_reducible exact Below.refl _ _) | (with_reducible refine Below.setCell ?_ ?_ _) | (with_reducible refine Below.drew ?_) | (with_reducible refine Below.alloc ?_ ?_ _) | (with_reducible refine Below.trans ?_ (Below.mono hw43 ?_)) | (with_reducible refine Below.trans ?_ (Below.mono hw42 ?_)) | (with_reducible refine Below.trans ?_ (Below.mono hw41 ?_)) | (with_reducible refine Below.trans ?_ (Below.mono hb2 ?_)) | (with_reducible exact hw43.size) | (with_reducible exact hw42.size) | (with_reducible exact hw41.size) | (with_reducible exact hb2.size) | omega | (simp <;> omega) | (simp <;> (have s := hw43.size; omega)) | (simp <;> (have s := hw42.size; omega)) | (simp <;> (have s := hw41.size; omega)) | (simp <;> (have s := hb2.size; omega)) | (have s0 := hw43.size; (try simp at s0); have s1 := hw42.size; (try simp at s1); have s2 := hw41.size; (try simp at s2); have s3 := hb2.size; (try simp at s3); (try simp); omega)), by have q1 := hw41.size; have q2 := hw42.size; have q3 := hw43.size; (try simp at q1 q2 q3); (try simp); omega⟩
        case rest =>
          obtain ⟨hT3, hb3, hs4⟩ := hcut
          clear hB2 hT2 hb2 hs2 hs3
          obtain ⟨r3, e3, cC, hC⟩ := cay_calls a b c d
          have hT' := hT3
          obtain ⟨cx0, cx1, cx2, cx3, cx4, cy0, cy1, cy2, cy3, cy4, cz0, cz1, cz2, cz3, cz4, cz5⟩ := hT'
          obtain ⟨v0, v1, v2⟩ : w.heap.size < wc.heap.size ∧ w.heap.size + 1 < wc.heap.size ∧ w.heap.size + 2 < wc.heap.size := by omega
          go_upto_if 317 with (first | ((with_reducible refine (cC _).mono ?_); clear cC; rintro e w51 ⟨rfl, hw51⟩; have hc51 := Tail.cells hw51; have s51 := hw51.size; (try simp at s51); (try have z51_0 : w.heap.size < w51.heap.size := (by omega)); (try have z51_1 : w.heap.size+1 < w51.heap.size := (by omega)); (try have z51_2 : w.heap.size+2 < w51.heap.size := (by omega)); clear s51))
          go_cut [] from 318 to 352 (fun wx => TB wx w.heap.size x y a b c d s t ∧ Below w.heap.size w wx ∧ w.heap.size + 3 ≤ wx.heap.size)
          case first =>
            rcases hC with hC | hC | ⟨hC, u1, u2, u3, cN, cI⟩
            · subst hC
              go_wp2_with fail
              go_meet
              exact ⟨TB.later hT3 (by repeat (first | (with_reducible exact Below.refl _ _) | (with_reducible refine Below.setCell ?_ ?_ _) | (with_reducible refine Below.drew ?_) | (with_reducible refine Below.alloc ?_ ?_ _) | (with_reducible refine Below.trans ?_ (Below.mono hw51 ?_)) | (with_reducible exact hw51.size) | omega | (simp <;> omega) | (simp <;> (have s := hw51.size; omega)) | (have s0 := hw51.size; (try simp at s0); (try simp); omega))), by repeat (first | (with_reducible exact Below.refl _ _) | (with_reducible refine Below.setCell ?_ ?_ _) | (with_reducible refine Below.drew ?_) | (with_reducible refine Below.alloc ?_ ?_ _) | (with_reducible refine Below.trans ?_ (Below.mono hw51 ?_)) | (with_reducible refine Below.trans ?_ (Below.mono hb3 ?_)) | (with_reducible exact hw51.size) | (with_reducible exact hb3.size) | omega | (simp <;> omega) | (simp <;> (have s := hw51.size; omega)) | (simp <;> (have s := hb3.size; omega)) | (have s0 := hw51.size; (try simp at s0); have s1 := hb3.size; (try simp at s1); (try simp); omega)), by have q1 := hw51.size; (try simp); omega⟩
            · subst hC
              go_wp2_with fail
              go_meet
              exact ⟨TB.later hT3 (by repeat (first | (with_reducible exact Below.refl _ _) | (with_reducible refine Below.setCell ?_ ?_ _) | (with_reducible refine Below.drew ?_) | (with_reducible refine Below.alloc ?_ ?_ _) | (with_reducible refine Below.trans ?_ (Below.mono hw51 ?_)) | (with_reducible exact hw51.size) | omega | (simp <;> omega) | (simp <;> (have s := hw51.size; omega)) | (have s0 := hw51.size; (try simp at s0); (try simp); omega))), by repeat (first | (with_reducible exact Below.refl _ _) | (with_reducible refine Below.setCell ?_ ?_ _) | (with_reducible refine Below.drew ?_) | (with_reducible refine Below.alloc ?_ ?_ _) | (with_reducible refine Below.trans ?_ (Below.mono hw51 ?_)) | (with_reducible refine Below.trans ?_ (Below.mono hb3 ?_)) | (with_reducible exact hw51.size) | (with_reducible exact hb3.size) | omega | (simp <;> omega) | (simp <;> (have s := hw51.size; omega)) | (simp <;> (have s := hb3.size; omega)) | (have s0 := hw51.size; (try simp at s0); have s1 := hb3.size; (try simp at s1); (try simp); omega)), by have q1 := hw51.size; (try simp); omega⟩
            · subst hC
              generalize bar r3 = z3 at *
              have qe := eqU
              go_wp2_with (first | ((with_reducible refine (cN _).mono ?_); clear cN; rintro e w52 ⟨rfl, hw52⟩; have hc52 := Tail.cells hw52; have s52 := hw52.size; (try simp at s52); (try have z52_0 : w.heap.size < w52.heap.size := (by omega)); (try have z52_1 : w.heap.size+1 < w52.heap.size := (by omega)); (try have z52_2 : w.heap.size+2 < w52.heap.size := (by omega)); (try have z52_3 : w51.heap.size < w52.heap.size := (by omega)); clear s52) | ((with_reducible refine (cI _).mono ?_); clear cI; rintro e w53 ⟨rfl, hw53⟩; have hc53 := Tail.cells hw53; have s53 := hw53.size; (try simp at s53); (try have z53_0 : w.heap.size < w53.heap.size := (by omega)); (try have z53_1 : w.heap.size+1 < w53.heap.size := (by omega)); (try have z53_2 : w.heap.size+2 < w53.heap.size := (by omega)); (try have z53_3 : w51.heap.size < w53.heap.size := (by omega)); (try have z53_4 : w52.heap.size < w53.heap.size := (by omega)); clear s53))
              go_meet
              exact ⟨TB.later hT3 (by repeat (first | (with_reducible exact Below.refl _ _) | (with_reducible refine Below.setCell ?_ ?_ _) | (with_reducible refine Below.drew ?_) | (with_reducible refine Below.alloc ?_ ?_ _) | (with_reducible refine Below.trans ?_ (Below.mono hw53 ?_)) | (with_reducible refine Below.trans ?_ (Below.mono hw52 ?_)) | (with_reducible refine Below.trans ?_ (Below.mono hw51 ?_)) | (with_reducible exact hw53.size) | (with_reducible exact hw52.size) | (with_reducible exact hw51.size) | omega | (simp <;> omega) | (simp <;> (have s := hw53.size; omega)) | (simp <;> (have s := hw52.size; omega)) | (simp <;> (have s := hw51.size; omega)) | (have s0 := hw53.size; (try simp at s0); have s1 := hw52.size; (try simp at s1); have s2 := hw51.size; (try simp at s2); (try simp); omega))), by repeat (first | (with_reducible exact Below.refl _ _) | (with_reducible refine Below.setCell ?_ ?_ _) | (with_reducible refine Below.drew ?_) | (with_reducible refine Below.alloc ?_ ?_ _) | (with_reducible refine Below.trans ?_ (Below.mono hw53 ?_)) | (with_reducible refine Below.trans ?_ (Below.mono hw52 ?_)) | (with_reducible refine Below.trans ?_ (Below.mono hw51 ?_)) | (with_reducible refine Below.trans ?_ (Below.mono hb3 ?_)) | (with_reducible exact hw53.size) | (with_reducible exact hw52.size) | (with_reducible exact hw51.size) | (with_reducible exact hb3.size) | omega | (simp <;> omega) | (simp <;> (have s := hw53.size; omega)) | (simp <;> (have s := hw52.size; omega)) | (simp <;> (have s := hw51.size; omega)) | (simp <;> (have s := hb3.size; omega)) | (have s0 := hw53.size; (try simp at s0); have s1 := hw52.size; (try simp at s1); have s2 := hw51.size; (try simp at s2); have s3 := hb3.size; (try simp at s3); (try simp); omega)), by have q1 := hw51.size; have q2 := hw52.size; have q3 := hw53.size; (try simp at q1 q2 q3); (try simp); omega⟩
          case rest =>
            obtain ⟨hT4, hb4, hs5⟩ := hcut
            clear hC cx0 cx1 cx2 cx3 cx4 cy0 cy1 cy2 cy3 cy4 cz0 cz1 cz2 cz3 cz4 cz5 v0 v1 v2 hw51 hc51 hT3 hb3 hs4
            obtain ⟨us, es, cS, hS⟩ := small_calls s
            obtain ⟨ut, et, cT, hU⟩ := small_calls t
            have hT' := hT4
            obtain ⟨cx0, cx1, cx2, cx3, cx4, cy0, cy1, cy2, cy3, cy4, cz0, cz1, cz2, cz3, cz4, cz5⟩ := hT'
            obtain ⟨v0, v1, v2⟩ : w.heap.size < wc.heap.size ∧ w.heap.size + 1 < wc.heap.size ∧ w.heap.size + 2 < wc.heap.size := by omega
            rcases hS with hS | ⟨hS, hg⟩
            · subst hS
              clear hU
              go_wp2_with (first | ((with_reducible refine (cS _).mono ?_); clear cS; rintro e w61 ⟨rfl, hw61⟩; have hc61 := Tail.cells hw61; have s61 := hw61.size; (try simp at s61); (try have z61_0 : w.heap.size < w61.heap.size := (by omega)); (try have z61_1 : w.heap.size+1 < w61.heap.size := (by omega)); (try have z61_2 : w.heap.size+2 < w61.heap.size := (by omega)); clear s61) | ((with_reducible refine (cT _).mono ?_); clear cT; rintro e w62 ⟨rfl, hw62⟩; have hc62 := Tail.cells hw62; have s62 := hw62.size; (try simp at s62); (try have z62_0 : w.heap.size < w62.heap.size := (by omega)); (try have z62_1 : w.heap.size+1 < w62.heap.size := (by omega)); (try have z62_2 : w.heap.size+2 < w62.heap.size := (by omega)); (try have z62_3 : w61.heap.size < w62.heap.size := (by omega)); clear s62))
              go_ret
              exact ⟨rfl, by repeat (first | (with_reducible exact Below.refl _ _) | (with_reducible refine Below.setCell ?_ ?_ _) | (with_reducible refine Below.drew ?_) | (with_reducible refine Below.alloc ?_ ?_ _) | (with_reducible refine Below.trans ?_ (Below.mono hw62 ?_)) | (with_reducible refine Below.trans ?_ (Below.mono hw61 ?_)) | (with_reducible refine Below.trans ?_ (Below.mono hb4 ?_)) | (with_reducible exact hw62.size) | (with_reducible exact hw61.size) | (with_reducible exact hb4.size) | omega | (simp <;> omega) | (simp <;> (have s := hw62.size; omega)) | (simp <;> (have s := hw61.size; omega)) | (simp <;> (have s := hb4.size; omega)) | (have s0 := hw62.size; (try simp at s0); have s1 := hw61.size; (try simp at s1); have s2 := hb4.size; (try simp at s2); (try simp); omega))⟩
            · rcases hU with hU | ⟨hU, hh⟩
              · subst hS hU
                clear hg
                go_wp2_with (first | ((with_reducible refine (cS _).mono ?_); clear cS; rintro e w61 ⟨rfl, hw61⟩; have hc61 := Tail.cells hw61; have s61 := hw61.size; (try simp at s61); (try have z61_0 : w.heap.size < w61.heap.size := (by omega)); (try have z61_1 : w.heap.size+1 < w61.heap.size := (by omega)); (try have z61_2 : w.heap.size+2 < w61.heap.size := (by omega)); clear s61) | ((with_reducible refine (cT _).mono ?_); clear cT; rintro e w62 ⟨rfl, hw62⟩; have hc62 := Tail.cells hw62; have s62 := hw62.size; (try simp at s62); (try have z62_0 : w.heap.size < w62.heap.size := (by omega)); (try have z62_1 : w.heap.size+1 < w62.heap.size := (by omega)); (try have z62_2 : w.heap.size+2 < w62.heap.size := (by omega)); (try have z62_3 : w61.heap.size < w62.heap.size := (by omega)); clear s62))
                go_ret
                exact ⟨rfl, by repeat (first | (with_reducible exact Below.refl _ _) | (with_reducible refine Below.setCell ?_ ?_ _) | (with_reducible refine Below.drew ?_) | (with_reducible refine Below.alloc ?_ ?_ _) | (with_reducible refine Below.trans ?_ (Below.mono hw62 ?_)) | (with_reducible refine Below.trans ?_ (Below.mono hw61 ?_)) | (with_reducible refine Below.trans ?_ (Below.mono hb4 ?_)) | (with_reducible exact hw62.size) | (with_reducible exact hw61.size) | (with_reducible exact hb4.size) | omega | (simp <;> omega) | (simp <;> (have s := hw62.size; omega)) | (simp <;> (have s := hw61.size; omega)) | (simp <;> (have s := hb4.size; omega)) | (have s0 := hw62.size; (try simp at s0); have s1 := hw61.size; (try simp at s1); have s2 := hb4.size; (try simp at s2); (try simp); omega))⟩
              · subst hS hU
                obtain ⟨r4, j4, o4, g1, g2, g3, g4, h1, h2, h3, h4⟩ := group_calls us ut hg hh
                clear hg hh
                go_wp2_with (first | ((with_reducible refine (cS _).mono ?_); clear cS; rintro e w61 ⟨rfl, hw61⟩; have hc61 := Tail.cells hw61; have s61 := hw61.size; (try simp at s61); (try have z61_0 : w.heap.size < w61.heap.size := (by omega)); (try have z61_1 : w.heap.size+1 < w61.heap.size := (by omega)); (try have z61_2 : w.heap.size+2 < w61.heap.size := (by omega)); clear s61) | ((with_reducible refine (cT _).mono ?_); clear cT; rintro e w62 ⟨rfl, hw62⟩; have hc62 := Tail.cells hw62; have s62 := hw62.size; (try simp at s62); (try have z62_0 : w.heap.size < w62.heap.size := (by omega)); (try have z62_1 : w.heap.size+1 < w62.heap.size := (by omega)); (try have z62_2 : w.heap.size+2 < w62.heap.size := (by omega)); (try have z62_3 : w61.heap.size < w62.heap.size := (by omega)); clear s62) | ((with_reducible refine (g1 _).mono ?_); clear g1; rintro e w63 ⟨rfl, hw63⟩; have hc63 := Tail.cells hw63; have s63 := hw63.size; (try simp at s63); (try have z63_0 : w.heap.size < w63.heap.size := (by omega)); (try have z63_1 : w.heap.size+1 < w63.heap.size := (by omega)); (try have z63_2 : w.heap.size+2 < w63.heap.size := (by omega)); (try have z63_3 : w61.heap.size < w63.heap.size := (by omega)); (try have z63_4 : w62.heap.size < w63.heap.size := (by omega)); clear s63) | ((with_reducible refine (g2 _).mono ?_); clear g2; rintro e w64 ⟨rfl, hw64⟩; have hc64 := Tail.cells hw64; have s64 := hw64.size; (try simp at s64); (try have z64_0 : w.heap.size < w64.heap.size := (by omega)); (try have z64_1 : w.heap.size+1 < w64.heap.size := (by omega)); (try have z64_2 : w.heap.size+2 < w64.heap.size := (by omega)); (try have z64_3 : w61.heap.size < w64.heap.size := (by omega)); (try have z64_4 : w62.heap.size < w64.heap.size := (by omega)); (try have z64_5 : w63.heap.size < w64.heap.size := (by omega)); clear s64) | ((with_reducible refine (g3 _).mono ?_); clear g3; rintro e w65 ⟨rfl, hw65⟩; have hc65 := Tail.cells hw65; have s65 := hw65.size; (try simp at s65); (try have z65_0 : w.heap.size < w65.heap.size := (by omega)); (try have z65_1 : w.heap.size+1 < w65.heap.size := (by omega)); (try have z65_2 : w.heap.size+2 < w65.heap.size := (by omega)); (try have z65_3 : w61.heap.size < w65.heap.size := (by omega)); (try have z65_4 : w62.heap.size < w65.heap.size := (by omega)); (try have z65_5 : w63.heap.size < w65.heap.size := (by omega)); (try have z65_6 : w64.heap.size < w65.heap.size := (by omega)); clear s65) | ((with_reducible refine (g4 _).mono ?_); clear g4; rintro e w66 ⟨rfl, hw66⟩; have hc66 := Tail.cells hw66; have s66 := hw66.size; (try simp at s66); (try have z66_0 : w.heap.size < w66.heap.size := (by omega)); (try have z66_1 : w.heap.size+1 < w66.heap.size := (by omega)); (try have z66_2 : w.heap.size+2 < w66.heap.size := (by omega)); (try have z66_3 : w61.heap.size < w66.heap.size := (by omega)); (try have z66_4 : w62.heap.size < w66.heap.size := (by omega)); (try have z66_5 : w63.heap.size < w66.heap.size := (by omega)); (try have z66_6 : w64.heap.size < w66.heap.size := (by omega)); (try have z66_7 : w65.heap.size < w66.heap.size := (by omega)); clear s66))
                go_ret
                exact ⟨rfl, by repeat (first | (with_reducible exact Below.refl _ _) | (with_reducible refine Below.setCell ?_ ?_ _) | (with_reducible refine Below.drew ?_) | (with_reducible refine Below.alloc ?_ ?_ _) | (with_reducible refine Below.trans ?_ (Below.mono hw66 ?_)) | (with_reducible refine Below.trans ?_ (Below.mono hw65 ?_)) | (with_reducible refine Below.trans ?_ (Below.mono hw64 ?_)) | (with_reducible refine Below.trans ?_ (Below.mono hw63 ?_)) | (with_reducible refine Below.trans ?_ (Below.mono hw62 ?_)) | (with_reducible refine Below.trans ?_ (Below.mono hw61 ?_)) | (with_reducible refine Below.trans ?_ (Below.mono hb4 ?_)) | (with_reducible exact hw66.size) | (with_reducible exact hw65.size) | (with_reducible exact hw64.size) | (with_reducible exact hw63.size) | (with_reducible exact hw62.size) | (with_reducible exact hw61.size) | (with_reducible exact hb4.size) | omega | (simp <;> omega) | (simp <;> (have s := hw66.size; omega)) | (simp <;> (have s := hw65.size; omega)) | (simp <;> (have s := hw64.size; omega)) | (simp <;> (have s := hw63.size; omega)) | (simp <;> (have s := hw62.size; omega)) | (simp <;> (have s := hw61.size; omega)) | (simp <;> (have s := hb4.size; omega)) | (have s0 := hw66.size; (try simp at s0); have s1 := hw65.size; (try simp at s1); have s2 := hw64.size; (try simp at s2); have s3 := hw63.size; (try simp at s3); have s4 := hw62.size; (try simp at s4); have s5 := hw61.size; (try simp at s5); have s6 := hb4.size; (try simp at s6); (try simp); omega))⟩
end Go.Proofs.Ytoafojojhdcmfaa
