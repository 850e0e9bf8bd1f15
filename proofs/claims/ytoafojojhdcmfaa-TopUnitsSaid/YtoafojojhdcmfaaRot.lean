/- Vectors turned by units, as the program turns them.
Conditions: none. -/
import Derived.Test.YtoafojojhdcmfaaTurn
namespace Go.Proofs.Ytoafojojhdcmfaa
set_option linter.unusedVariables false
set_option linter.unusedSimpArgs false
open Go.RowKit
open Um

/-- each part lies within a bound, the last one too -/
def Bd (x : Q) (m : Int) : Prop := ∀ p : Int, (p = x.a ∨ p = x.b ∨ p = x.c ∨ p = x.d ∨ p = x.n) → -m ≤ p ∧ p ≤ m
theorem Bd.mul {x y : Q} {X Y : Int} (hX : 0 ≤ X) (hY : 0 ≤ X * Y) (hx : Bd x X) (hy : Bd y Y) : Bd (mul x y) (4 * (X * Y)) := by
  have f := fun p q hp hq => mul_bnd hX (hx p hp) (hy q hq)
  have aa := f x.a y.a (by simp) (by simp)
  have ab := f x.a y.b (by simp) (by simp)
  have ac := f x.a y.c (by simp) (by simp)
  have ad := f x.a y.d (by simp) (by simp)
  have ba := f x.b y.a (by simp) (by simp)
  have bb := f x.b y.b (by simp) (by simp)
  have bc := f x.b y.c (by simp) (by simp)
  have bd := f x.b y.d (by simp) (by simp)
  have ca := f x.c y.a (by simp) (by simp)
  have cb := f x.c y.b (by simp) (by simp)
  have cc := f x.c y.c (by simp) (by simp)
  have cd := f x.c y.d (by simp) (by simp)
  have da := f x.d y.a (by simp) (by simp)
  have db := f x.d y.b (by simp) (by simp)
  have dc := f x.d y.c (by simp) (by simp)
  have dd := f x.d y.d (by simp) (by simp)
  have nn := f x.n y.n (by simp) (by simp)
  generalize X * Y = M at *
  intro p hp
  simp only [Um.mul] at hp
  rcases hp with rfl | rfl | rfl | rfl | rfl <;> omega
theorem Bd.small {x y : Q} {X Y : Int} (hX : 0 ≤ X) (hx : Bd x X) (hy : Bd y Y) (h : X * Y ≤ 1152921504606846976) : Small2 x y := Small2.of hX h hx hy
theorem V.bd {x : Q} (h : V x) : Bd x 1048576 := by
  have i := V.in h
  have a1 := i.a; have a2 := i.b; have a3 := i.c; have a4 := i.d; have a5 := i.n
  rintro p (rfl | rfl | rfl | rfl | rfl) <;> omega
theorem vec_bd {a b c : Int} (ha : -1000 ≤ a ∧ a ≤ 1000) (hb : -1000 ≤ b ∧ b ≤ 1000) (hc : -1000 ≤ c ∧ c ≤ 1000) : Bd ⟨0, a, b, c, 1⟩ 1000 := by
  rintro p (h | h | h | h | h) <;> dsimp only at h <;> omega

def vB (a b c : Int) : Bool := inB a (-1000) 1000 && inB b (-1000) 1000 && inB c (-1000) 1000
theorem vB_iff {a b c : Int} : vB a b c = true ↔ (-1000 ≤ a ∧ a ≤ 1000) ∧ (-1000 ≤ b ∧ b ≤ 1000) ∧ (-1000 ≤ c ∧ c ≤ 1000) := by
  simp only [vB, Bool.and_eq_true, inB_iff2, and_assoc]

set_option maxHeartbeats 800000 in
theorem rotate_bad (x : Q) (a b c : Int) (w : World) (h : ¬ V x) : Calls Try.prog 73 #[.agg #[.int .i64 x.a, .int .i64 x.b, .int .i64 x.c, .int .i64 x.d, .int .i64 x.n], .agg #[.int .i64 a, .int .i64 b, .int .i64 c]] w fun e w' => e = .returned (.tuple #[.agg #[.int .i64 0, .int .i64 0, .int .i64 0, .int .i64 0, .int .i64 0, .int .i64 0], .int .i64 1]) ∧ Below w.heap.size w w' := by
  have c1 := fun W : World => validate_bad x W h
  clear h
  go_enter Try.func73, Try.ntmps73
  go_wp2_with ((with_reducible refine (c1 _).mono ?_); rintro e w1 ⟨rfl, hw1⟩; have hc := Tail.cells hw1; have zw10 := Nat.lt_of_lt_of_le (n := w.heap.size) (by simp <;> omega) hw1.size; have zw11 := Nat.lt_of_lt_of_le (n := w.heap.size + 1) (by simp <;> omega) hw1.size; have zw12 := Nat.lt_of_lt_of_le (n := w.heap.size + 2) (by simp <;> omega) hw1.size)
  refine bodyPost_ret (v := .tuple #[.agg #[.int .i64 0, .int .i64 0, .int .i64 0, .int .i64 0, .int .i64 0, .int .i64 0], .int .i64 1]) ?_ rfl ⟨rfl, ?_⟩
  · simp [results, Try.results73, go_sem, hc, zw10, zw11, zw12]
  · repeat (first | (with_reducible exact Below.refl _ _) | (with_reducible refine Below.setCell ?_ ?_ _) | (with_reducible refine Below.drew ?_) | (with_reducible refine Below.alloc ?_ ?_ _) | (with_reducible refine Below.trans ?_ (Below.mono hw1 ?_)) | (with_reducible exact hw1.size) | omega | (simp <;> omega) | (simp <;> (have s := hw1.size; omega)) | (have s0 := hw1.size; (try simp at s0); (try simp); omega))

set_option maxHeartbeats 1600000 in
theorem rotate_far (x : Q) (a b c : Int) (w : World) (h : V x) (hv : vB a b c = false) : Calls Try.prog 73 #[.agg #[.int .i64 x.a, .int .i64 x.b, .int .i64 x.c, .int .i64 x.d, .int .i64 x.n], .agg #[.int .i64 a, .int .i64 b, .int .i64 c]] w fun e w' => e = .returned (.tuple #[.agg #[.int .i64 0, .int .i64 0, .int .i64 0, .int .i64 0, .int .i64 0, .int .i64 0], .int .i64 1]) ∧ Below w.heap.size w w' := by
  have c1 := fun W : World => validate_ok x W h
  have c2 : ∀ W : World, Calls Try.prog 136 #[.agg #[.int .i64 a, .int .i64 b, .int .i64 c], .int .i64 1000] W fun e w' => e = .returned (.bool false) ∧ Below W.heap.size W w' := fun W => by
    have := vwithin_any ⟨0, a, b, c, 1⟩ 1000 W (by omega) (by omega)
    have e : (inB a (-1000) 1000 && inB b (-1000) 1000 && inB c (-1000) 1000) = false := hv
    dsimp only at this
    rw [e] at this
    exact this
  clear h hv
  go_enter Try.func73, Try.ntmps73
  go_wp2_with (first | ((with_reducible refine (c1 _).mono ?_); rintro e w1 ⟨rfl, hw1⟩; have hc := Tail.cells hw1; have zw10 := Nat.lt_of_lt_of_le (n := w.heap.size) (by simp <;> omega) hw1.size; have zw11 := Nat.lt_of_lt_of_le (n := w.heap.size + 1) (by simp <;> omega) hw1.size; have zw12 := Nat.lt_of_lt_of_le (n := w.heap.size + 2) (by simp <;> omega) hw1.size) | ((with_reducible refine (c2 _).mono ?_); rintro e w2 ⟨rfl, hw2⟩; have hc2 := Tail.cells hw2; have s2 := hw2.size; simp at s2; have z20 : w.heap.size < w2.heap.size := (by omega); have z21 : w.heap.size + 1 < w2.heap.size := (by omega); have z22 : w.heap.size + 2 < w2.heap.size := (by omega)))
  refine bodyPost_ret (v := .tuple #[.agg #[.int .i64 0, .int .i64 0, .int .i64 0, .int .i64 0, .int .i64 0, .int .i64 0], .int .i64 1]) ?_ rfl ⟨rfl, ?_⟩
  · simp [results, Try.results73, go_sem, hc, hc2, zw10, zw11, zw12, z20, z21, z22]
  · repeat (first | (with_reducible exact Below.refl _ _) | (with_reducible refine Below.setCell ?_ ?_ _) | (with_reducible refine Below.drew ?_) | (with_reducible refine Below.alloc ?_ ?_ _) | (with_reducible refine Below.trans ?_ (Below.mono hw2 ?_)) | (with_reducible refine Below.trans ?_ (Below.mono hw1 ?_)) | (with_reducible exact hw2.size) | (with_reducible exact hw1.size) | omega | (simp <;> omega) | (simp <;> (have s := hw2.size; omega)) | (simp <;> (have s := hw1.size; omega)) | (have s0 := hw2.size; (try simp at s0); have s1 := hw1.size; (try simp at s1); (try simp); omega))

theorem turn_bd {x : Q} {a b c : Int} (h : V x) (hv : Bd ⟨0, a, b, c, 1⟩ 1000) : Bd (mul x ⟨0, a, b, c, 1⟩) 4194304000 ∧ Bd (turn x a b c) 17592186044416000 := by
  have h1 := Bd.mul (X := 1048576) (Y := 1000) (by omega) (by omega) (V.bd h) hv
  have h2 := Bd.mul (X := 4194304000) (Y := 1048576) (by omega) (by omega) h1 (V.bd h.bar)
  exact ⟨h1, h2⟩

/-- the six numbers of a vector that was turned -/
def rotV (x : Q) (a b c : Int) : (Int × Int) × (Int × Int) × (Int × Int) := (rat (turn x a b c).b (turn x a b c).n, rat (turn x a b c).c (turn x a b c).n, rat (turn x a b c).d (turn x a b c).n)

set_option maxRecDepth 100000 in
set_option maxHeartbeats 1600000 in
theorem rotate_ok (x : Q) (a b c : Int) (p q r : Int × Int) (w : World) (h : V x) (hv : vB a b c = true) (hr : rotV x a b c = (p, q, r)) : Calls Try.prog 73 #[.agg #[.int .i64 x.a, .int .i64 x.b, .int .i64 x.c, .int .i64 x.d, .int .i64 x.n], .agg #[.int .i64 a, .int .i64 b, .int .i64 c]] w fun e w' => e = .returned (.tuple #[.agg #[.int .i64 p.1, .int .i64 p.2, .int .i64 q.1, .int .i64 q.2, .int .i64 r.1, .int .i64 r.2], .int .i64 0]) ∧ Below w.heap.size w w' := by
  have hvb := vB_iff.1 hv
  have hb := vec_bd hvb.1 hvb.2.1 hvb.2.2
  have tb := turn_bd h hb
  have ix := V.in h
  have c1 := fun W : World => validate_ok x W h
  have c2 : ∀ W : World, Calls Try.prog 136 #[.agg #[.int .i64 a, .int .i64 b, .int .i64 c], .int .i64 1000] W fun e w' => e = .returned (.bool true) ∧ Below W.heap.size W w' := fun W => by
    have := vwithin_any ⟨0, a, b, c, 1⟩ 1000 W (by omega) (by omega)
    have e : (inB a (-1000) 1000 && inB b (-1000) 1000 && inB c (-1000) 1000) = true := hv
    dsimp only at this
    rw [e] at this
    exact this
  have c3 := fun W : World => quaternionOf_any x W
  have c4 : ∀ W : World, Calls Try.prog 133 #[.agg #[.int .i64 x.b, .int .i64 x.c, .int .i64 x.d, .int .i64 x.a, .int .i64 x.n], .agg #[.int .i64 a, .int .i64 b, .int .i64 c, .int .i64 0, .int .i64 1]] W fun e w' => e = .returned (.agg #[.int .i64 (mul x ⟨0, a, b, c, 1⟩).b, .int .i64 (mul x ⟨0, a, b, c, 1⟩).c, .int .i64 (mul x ⟨0, a, b, c, 1⟩).d, .int .i64 (mul x ⟨0, a, b, c, 1⟩).a, .int .i64 (mul x ⟨0, a, b, c, 1⟩).n]) ∧ Below W.heap.size W w' := fun W => times_any x ⟨0, a, b, c, 1⟩ W (Bd.small (by omega) (V.bd h) hb (by omega))
  have c5 := fun W : World => inverse_any x W (by have := ix.b; omega) (by have := ix.c; omega) (by have := ix.d; omega)
  have c6 := fun W : World => times_any (mul x ⟨0, a, b, c, 1⟩) (bar x) W (Bd.small (by omega) tb.1 (V.bd h.bar) (by omega))
  have et : mul (mul x ⟨0, a, b, c, 1⟩) (bar x) = turn x a b c := rfl
  rw [et] at c6
  have tn : 0 < (turn x a b c).n := by rw [turn_n]; exact Int.mul_pos h.u.pos h.u.pos
  have c7 := fun W : World => over_any (turn x a b c) (turn x a b c).n W (by have := tb.2 (turn x a b c).b (by simp); omega) (by have := tb.2 (turn x a b c).c (by simp); omega) (by have := tb.2 (turn x a b c).d (by simp); omega) (by have := tb.2 (turn x a b c).n (by simp); omega)
  simp only [rotV, Prod.mk.injEq] at hr
  obtain ⟨r1, r2, r3⟩ := hr
  rw [r1, r2, r3] at c7
  clear h hv hvb hb tb ix et tn r1 r2 r3
  generalize mul x ⟨0, a, b, c, 1⟩ = m at *
  generalize turn x a b c = t at *
  have kc := @Tail.cell_re
  go_enter Try.func73, Try.ntmps73
  go_wp2_with (first | ((with_reducible refine (c1 _).mono ?_); rintro e w1 ⟨rfl, hw1⟩; have hc := Tail.cells hw1; have zw10 := Nat.lt_of_lt_of_le (n := w.heap.size) (by simp <;> omega) hw1.size; have zw11 := Nat.lt_of_lt_of_le (n := w.heap.size + 1) (by simp <;> omega) hw1.size; have zw12 := Nat.lt_of_lt_of_le (n := w.heap.size + 2) (by simp <;> omega) hw1.size) | ((with_reducible refine (c2 _).mono ?_); rintro e w2 ⟨rfl, hw2⟩; have hc2 := Tail.cells hw2; have s2 := hw2.size; simp at s2; have z20 : w.heap.size < w2.heap.size := (by omega); have z21 : w.heap.size + 1 < w2.heap.size := (by omega); have z22 : w.heap.size + 2 < w2.heap.size := (by omega); have z23 : w1.heap.size < w2.heap.size := (by omega)) | ((with_reducible refine (c3 _).mono ?_); rintro e w3 ⟨rfl, hw3⟩; have hc3 := Tail.cells hw3; have s3 := hw3.size; have z30 : w.heap.size < w3.heap.size := (by omega); have z31 : w.heap.size + 1 < w3.heap.size := (by omega); have z32 : w.heap.size + 2 < w3.heap.size := (by omega); have z33 : w1.heap.size < w3.heap.size := (by omega)))
  apply Wide.region_one 6 (.cells #[.int .i64 0, .int .i64 0, .int .i64 0, .int .i64 0, .int .i64 0] 116) (some 9) (by kernel_rfl) (by kernel_rfl) (by kernel_rfl) ⟨_, rfl, rfl, fun a W => ⟨rfl, by simp [go_sem]⟩⟩
  · intro B hB
    have hcB := Tail.cells hB
    have sB := hB.size
    simp at sB
    have zB0 : w.heap.size < B.heap.size := by omega
    have zB1 : w.heap.size + 1 < B.heap.size := by omega
    have zB2 : w1.heap.size < B.heap.size := by omega
    have zB3 : w3.heap.size < B.heap.size := by omega
    simp only [List.take_succ_cons, List.take_zero]
    repeat (go_big_quiet_step (first | (with_reducible exact Calls.regrown_of (c4 _)) | (with_reducible exact Calls.regrown_of (c5 _)) | (with_reducible exact Calls.regrown_of (c6 _))))
    exact wpQuiet_nil rfl
  · intro b w4 hb hw4 hx4
    simp only [List.drop_succ_cons, List.drop_zero]
    have hc4 := Tail.cells hw4
    have k0 := Wide.cell_at hx4 0 _ rfl
    have k1 := Wide.cell_at hx4 1 _ rfl
    have k2 := Wide.cell_at hx4 2 _ rfl
    have k3 := Wide.cell_at hx4 3 _ rfl
    have k4 := Wide.cell_at hx4 4 _ rfl
    have f := Wide.free_at hx4
    have s4 := hw4.size
    simp at s4 hb
    have z40 : w.heap.size < w4.heap.size := by omega
    have z41 : w.heap.size + 1 < w4.heap.size := by omega
    have z42 : w.heap.size + 2 < w4.heap.size := by omega
    have zb : w.heap.size + 2 < b := by omega
    have hbl : b < w4.heap.size := World.block_lt_of_cell? w4 _ k0
    clear hx4
    go_wp2_with ((with_reducible refine (c7 _).mono ?_); rintro e w5 ⟨rfl, hw5⟩; have hc5 := Tail.cells hw5; have s5 := hw5.size; simp at s5; have z50 : w.heap.size < w5.heap.size := (by omega); have z51 : w.heap.size + 1 < w5.heap.size := (by omega); have z52 : w.heap.size + 2 < w5.heap.size := (by omega))
    refine bodyPost_ret (v := .tuple #[.agg #[.int .i64 p.1, .int .i64 p.2, .int .i64 q.1, .int .i64 q.2, .int .i64 r.1, .int .i64 r.2], .int .i64 0]) ?_ rfl ⟨rfl, ?_⟩
    · simp [results, Try.results73, go_sem, hc5, hc4, hc3, hc2, hc, zw10, zw11, zw12, z20, z21, z22, z30, z31, z32, z40, z41, z42, z52]
    · repeat (first | (with_reducible exact Below.refl _ _) | (with_reducible refine Below.setCell ?_ ?_ _) | (with_reducible refine Below.drew ?_) | (with_reducible refine Below.alloc ?_ ?_ _) | (with_reducible refine Below.trans ?_ (Below.mono hw5 ?_)) | (with_reducible refine Below.trans ?_ (Below.mono hw4 ?_)) | (with_reducible refine Below.trans ?_ (Below.mono hw3 ?_)) | (with_reducible refine Below.trans ?_ (Below.mono hw2 ?_)) | (with_reducible refine Below.trans ?_ (Below.mono hw1 ?_)) | (with_reducible exact hw5.size) | (with_reducible exact hw4.size) | (with_reducible exact hw3.size) | (with_reducible exact hw2.size) | (with_reducible exact hw1.size) | omega | (simp <;> omega) | (simp <;> (have s := hw5.size; omega)) | (simp <;> (have s := hw4.size; omega)) | (simp <;> (have s := hw3.size; omega)) | (simp <;> (have s := hw2.size; omega)) | (simp <;> (have s := hw1.size; omega)) | (have s0 := hw5.size; (try simp at s0); have s1 := hw4.size; (try simp at s1); have s2 := hw3.size; (try simp at s2); have s3 := hw2.size; (try simp at s3); have s4 := hw1.size; (try simp at s4); (try simp); omega))
end Go.Proofs.Ytoafojojhdcmfaa
