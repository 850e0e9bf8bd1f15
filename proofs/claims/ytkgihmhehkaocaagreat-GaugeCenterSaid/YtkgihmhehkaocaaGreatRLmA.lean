/- Sums and means of rational numbers, as the program makes them.
Conditions: those written at each theorem. -/
import Derived.Test.YtkgihmhehkaocaaGreatRQuatA
import Derived.Test.YtkgihmhehkaocaaGreatRLoM
import Derived.Test.YtkgihmhehkaocaaGreatRInts
import Derived.Test.YtkgihmhehkaocaaGreatRWlkA
namespace Go.Proofs.YtkgihmhehkaocaaGreat
set_option linter.unusedVariables false
set_option linter.unusedSimpArgs false
set_option maxRecDepth 1000000
open Go.RowKit
open Um Tm Lm

set_option maxHeartbeats 400000 in
theorem divisor3_any (m n : Int) (w : World) (hm : -4611686018427387904 ≤ m ∧ m ≤ 4611686018427387904) (hn : -4611686018427387904 ≤ n ∧ n ≤ 4611686018427387904) :
    Calls Tryz.prog 131 #[.int .i64 m, .int .i64 n] w fun e w' => e = .returned (.int .i64 (gc m n)) ∧ Below w.heap.size w w' := by
  obtain ⟨hm1, hm2⟩ := hm
  obtain ⟨hn1, hn2⟩ := hn
  go_enter Tryz.func131, Tryz.ntmps131
  go_wp2
  go_loopw [0, 1] (fun p q wr => ∃ x y : Int, p = .int .i64 x ∧ q = .int .i64 y ∧ -4611686018427387904 ≤ x ∧ x ≤ 4611686018427387904 ∧ -4611686018427387904 ≤ y ∧ y ≤ 4611686018427387904 ∧ gc x y = gc m n ∧ Below w.heap.size w wr) (fun _ q _ => (intOf q).natAbs)
  case atStart => exact ⟨m, n, rfl, rfl, hm1, hm2, hn1, hn2, rfl, Below.refl _ _⟩
  case round =>
    obtain ⟨x, y, rfl, rfl, hx1, hx2, hy1, hy2, hg, hb⟩ := hrel
    have HG := Lib.hid hg
    clear hg
    by_cases h0 : y = 0
    · subst h0
      go_wp2
      all_goals
        go_ret
        exact ⟨by have := HG.out; rw [gc_zero] at this; rw [← this]; refine congrArg Ending.returned (congrArg (Value.int .i64) ?_); omega, hb⟩
    · have h0' : (y != 0) = true := by simpa using h0
      have h1' : (y == 0) = false := by simpa using h0
      go_wp2
      go_quiet (fail)
      go_wp2
      have ht := tmod_small x y h0
      exact ⟨⟨y, x.tmod y, rfl, rfl, by omega, by omega, by omega, by omega, by rw [gc_step]; exact HG.out, ⟨hb.os, hb.tape, hb.output, hb.size, hb.block⟩⟩, by simpa [intOf] using ht⟩
set_option maxHeartbeats 800000 in
theorem lowest3_any (x y : Int) (w : World) (hx : -4611686018427387904 ≤ x ∧ x ≤ 4611686018427387904) (hy : 0 < y ∧ y ≤ 4611686018427387904) :
    Calls Tryz.prog 111 #[.int .i64 x, .int .i64 y] w fun e w' => e = .returned (.agg #[.int .i64 ((rat x y)).1, .int .i64 ((rat x y)).2]) ∧ Below w.heap.size w w' := by
  obtain ⟨w1, w2⟩ := rat_wraps x y hx hy
  have hg := gc_pos x y hy.1
  have hg0 : ¬ gc x y = 0 := by omega
  have hd := fun W : World => divisor3_any y x W (by omega) hx
  rw [gc_comm y x] at hd
  obtain ⟨hx1, hx2⟩ := hx
  obtain ⟨hy1, hy2⟩ := hy
  have kc := @Tail.cell_re
  go_enter Tryz.func111, Tryz.ntmps111
  go_wp2_with (go_at_call 131; refine (hd _).mono ?_; rintro e w1 ⟨rfl, hw1⟩; have hc := Tail.cells hw1; have hz1 := Nat.lt_of_lt_of_le (n := w.heap.size) (by simp <;> omega) hw1.size)
  refine Tail.region_tail_below 7 (by kernel_rfl) (by kernel_rfl) ?_
  simp only [List.take_succ_cons, List.take_zero, List.drop_succ_cons, List.drop_zero]
  repeat (quiet_step (fail))
  refine wpQuiet_nil ?_
  intro w2 hw2
  have hc2 := Tail.cells hw2
  go_wp2
  refine bodyPost_ret (v := .agg #[.int .i64 ((rat x y)).1, .int .i64 ((rat x y)).2]) ?_ rfl ⟨rfl, ?_⟩
  · simp [results, Tryz.results111, go_sem, hc, hc2, hz1]
  · repeat (first | (with_reducible exact Below.refl _ _) | (with_reducible refine Below.setCell ?_ ?_ _) | (with_reducible refine Below.drew ?_) | (with_reducible refine Below.alloc ?_ ?_ _) | (with_reducible refine Below.trans ?_ (Below.mono hw2 ?_)) | (with_reducible refine Below.trans ?_ (Below.mono hw1 ?_)) | (with_reducible exact hw2.size) | (with_reducible exact hw1.size) | omega | (simp <;> omega) | (simp <;> (have s := hw2.size; omega)) | (simp <;> (have s := hw1.size; omega)) | (have s0 := hw2.size; (try simp at s0); have s1 := hw1.size; (try simp at s1); (try simp); omega))
theorem tdiv_wrap {x G p : Int} (hG : 0 < G) (e : x = G * p) (hp : 0 ≤ p) (h : p ≤ 4611686018427387904) : IntKind.i64.wrap (x.tdiv G) = p := by
  rw [e, Int.mul_tdiv_cancel_left _ (by omega)]
  exact IntWalk.i64_in _ (by omega)
set_option maxHeartbeats 1600000 in
theorem plus3_any (a b : Int × Int) (w : World) (ha : Rt 80000 a) (hb : Rt 80000 b) :
    Calls Tryz.prog 110 #[.agg #[.int .i64 (a).1, .int .i64 (a).2], .agg #[.int .i64 (b).1, .int .i64 (b).2]] w fun e w' => e = .returned (.agg #[.int .i64 ((plusR a b)).1, .int .i64 ((plusR a b)).2]) ∧ Below w.heap.size w w' := by
  obtain ⟨p, q, h⟩ := pl2 ha hb (by decide) (by decide)
  have ha1 := Int.le_of_dvd MM_pos ha.dvd
  have hb1 := Int.le_of_dvd MM_pos hb.dvd
  have ha0 := ha.pos
  have hb0 := hb.pos
  have e80 : (80000 : Int) * MM = 205031250000000 := by decide
  have eMM : MM = 2562890625 := rfl
  have d1 := fun W : World => divisor3_any a.2 b.2 W (by omega) (by omega)
  have hgc : gc a.2 b.2 = (Nat.gcd a.2.natAbs b.2.natAbs : Int) := rfl
  rw [hgc] at d1
  clear hgc
  obtain ⟨G0, e1, e2, p0, q0, pm, qm, l0, l1, x0, x1, y0, y1, r⟩ := h
  rw [e80] at x0 x1 y0 y1
  generalize (Nat.gcd a.2.natAbs b.2.natAbs : Int) = G at *
  have t1 := tdiv_wrap G0 e1 (by omega) (by omega)
  have t2 := tdiv_wrap G0 e2 (by omega) (by omega)
  have d2 := fun W : World => lowest3_any (a.1 * q + b.1 * p) (p * b.2) W (by omega) (by omega)
  rw [r] at d2
  have G1 : ¬ G = 0 := by omega
  generalize plusR a b = z at *
  obtain ⟨a1, a2⟩ := a
  obtain ⟨b1, b2⟩ := b
  simp only at *
  clear ha hb e1 e2 r
  have m1 : IntKind.i64.wrap (a1 * q) = a1 * q := IntWalk.i64_in _ (by omega)
  have m2 : IntKind.i64.wrap (b1 * p) = b1 * p := IntWalk.i64_in _ (by omega)
  have m3 : IntKind.i64.wrap (a1 * q + b1 * p) = a1 * q + b1 * p := IntWalk.i64_in _ (by omega)
  have m4 : IntKind.i64.wrap (p * b2) = p * b2 := IntWalk.i64_in _ (by omega)
  have kc := @Tail.cell_re
  go_enter Tryz.func110, Tryz.ntmps110
  go_wp2_with (fail)
  refine (d1 _).mono ?_
  rintro e w1 ⟨rfl, hw1⟩
  have hc1 := Tail.cells hw1
  have zw10 := Nat.lt_of_lt_of_le (n := w.heap.size) (by simp <;> omega) hw1.size; have zw11 := Nat.lt_of_lt_of_le (n := w.heap.size + 1) (by simp <;> omega) hw1.size; have zw12 := Nat.lt_of_lt_of_le (n := w.heap.size + 2) (by simp <;> omega) hw1.size
  go_wp2_with (fail)
  refine Tail.region_tail_below 22 (by kernel_rfl) (by kernel_rfl) ?_
  simp only [List.take_succ_cons, List.take_zero, List.drop_succ_cons, List.drop_zero]
  repeat (go_big_quiet_step (fail))
  refine wpQuiet_nil ?_
  intro w2 hw2
  have hc2 := Tail.cells hw2
  have v0 := Nat.lt_of_lt_of_le zw12 hw2.size
  go_wp2_with (fail)
  refine (d2 _).mono ?_
  rintro e w3 ⟨rfl, hw3⟩
  have hc3 := Tail.cells hw3
  have v1 := Nat.lt_of_lt_of_le v0 hw3.size
  go_wp2
  refine bodyPost_ret (v := .agg #[.int .i64 (z).1, .int .i64 (z).2]) ?_ rfl ⟨rfl, ?_⟩
  · simp [results, Tryz.results110, go_sem, hc1, hc2, hc3, zw12, v0, v1]
  · repeat (first | (with_reducible exact Below.refl _ _) | (with_reducible refine Below.setCell ?_ ?_ _) | (with_reducible refine Below.drew ?_) | (with_reducible refine Below.alloc ?_ ?_ _) | (with_reducible refine Below.trans ?_ (Below.mono hw3 ?_)) | (with_reducible refine Below.trans ?_ (Below.mono hw2 ?_)) | (with_reducible refine Below.trans ?_ (Below.mono hw1 ?_)) | (with_reducible exact hw3.size) | (with_reducible exact hw2.size) | (with_reducible exact hw1.size) | omega | (simp <;> omega) | (simp <;> (have s := hw3.size; omega)) | (simp <;> (have s := hw2.size; omega)) | (simp <;> (have s := hw1.size; omega)) | (have s0 := hw3.size; (try simp at s0); have s1 := hw2.size; (try simp at s1); have s2 := hw1.size; (try simp at s2); (try simp); omega))

/-! ### lists of numbers -/
/-- a number in a box -/
structure RB (w : World) (b : Nat) (r : Int × Int) : Prop where
  c0 : w.cell? ⟨b, 0, none⟩ = some (.int .i64 r.1)
  c1 : w.cell? ⟨b, 1, none⟩ = some (.int .i64 r.2)
  free : ∀ j, w.frozen? ⟨b, j, none⟩ = false
  lt : b < w.heap.size
theorem RB.later {w w1 : World} {b : Nat} {r : Int × Int} (h : RB w b r) (hb : Below w.heap.size w w1) : RB w1 b r :=
  ⟨(hb.cell h.lt).trans h.c0, (hb.cell h.lt).trans h.c1, fun j => (hb.frozen (p := ⟨b, j, none⟩) h.lt).trans (h.free j), Nat.lt_of_lt_of_le h.lt hb.size⟩
theorem RB.put {w : World} {b : Nat} {r : Int × Int} (h : RB w b r) (s : Int × Int) : RB ((w.setCell ⟨b, 0, none⟩ (.int .i64 s.1)).setCell ⟨b, 1, none⟩ (.int .i64 s.2)) b s := by
  have h1 : (w.setCell ⟨b, 0, none⟩ (.int .i64 s.1)).cell? ⟨b, 1, none⟩ = some (.int .i64 r.2) := (World.cell?_setCell_other _ _ _ _ (by simp)).trans h.c1
  exact ⟨(World.cell?_setCell_other _ _ _ _ (by simp)).trans (World.cell?_setCell_same _ _ _ h.c0), World.cell?_setCell_same _ _ _ h1, fun j => by simp only [World.frozen?_setCell]; exact h.free j, by simp [World.setCell]; exact h.lt⟩
theorem RB.aside {w : World} {b g : Nat} {r : Int × Int} (h : RB w b r) (hne : b ≠ g) (u v : Value) : RB ((w.setCell ⟨g, 0, none⟩ u).setCell ⟨g, 1, none⟩ v) b r := by
  have n0 : ∀ i j : Nat, (⟨b, i, none⟩ : Addr) ≠ ⟨g, j, none⟩ := fun i j e => hne (congrArg Addr.block e)
  exact ⟨(World.cell?_setCell_other _ _ _ _ (n0 _ _).symm).trans ((World.cell?_setCell_other _ _ _ _ (n0 _ _).symm).trans h.c0), (World.cell?_setCell_other _ _ _ _ (n0 _ _).symm).trans ((World.cell?_setCell_other _ _ _ _ (n0 _ _).symm).trans h.c1), fun j => by simp only [World.frozen?_setCell]; exact h.free j, by simp [World.setCell]; exact h.lt⟩
def rl (l : List (Int × Int)) : List Int := l.flatMap fun r => [r.1, r.2]
theorem rl_len (l : List (Int × Int)) : (rl l).length = l.length * 2 := by
  induction l with
  | nil => rfl
  | cons r l ih => unfold rl at ih ⊢; rw [List.flatMap_cons, List.length_append, ih, List.length_cons]; simp <;> omega
theorem rl_get (l : List (Int × Int)) (k : Nat) (h : k < l.length) : (rl l)[k * 2]? = some l[k].1 ∧ (rl l)[k * 2 + 1]? = some l[k].2 := by
  induction l generalizing k with
  | nil => simp at h
  | cons r l ih =>
    have e : rl (r :: l) = r.1 :: r.2 :: rl l := by simp [rl]
    rw [e]
    cases k with
    | zero => exact ⟨rfl, rfl⟩
    | succ k =>
      have := ih k (by simpa using h)
      rw [show (k + 1) * 2 = k * 2 + 1 + 1 by omega]
      simpa using this
theorem rl_at {w : World} {ao : Option Addr} {l : List (Int × Int)} (h : LiesOI w ao (rl l)) {k : Nat} (hk : k < l.length) : ∃ b off, ao = some ⟨b, off, none⟩ ∧ w.cell? ⟨b, off + k * 2, none⟩ = some (.int .i64 l[k].1) ∧ w.cell? ⟨b, off + k * 2 + 1, none⟩ = some (.int .i64 l[k].2) := by
  obtain ⟨g0, g1⟩ := rl_get l k hk
  rcases h with h | ⟨b, off, rfl, h⟩
  · rw [h] at g0; simp at g0
  · exact ⟨b, off, rfl, h _ _ g0, h _ _ g1⟩
theorem acR_all (l : List (Int × Int)) : acR (l.take l.length) = acR l := by rw [List.take_length]
set_option maxHeartbeats 1600000 in
theorem mean3_any (ao : Option Addr) (cap : Nat) (l : List (Int × Int)) (w : World) (h : LiesOI w ao (rl l)) (hl : 0 < l.length) (hn : l.length ≤ 48) (hr : ∀ r ∈ l, Rt 2 r) : Calls Tryz.prog 79 #[.slice ao l.length cap] w fun e w' => e = .returned (.agg #[.int .i64 ((meanR l)).1, .int .i64 ((meanR l)).2]) ∧ Below w.heap.size w w' := by
  have key : ∀ (k : Nat), k ≤ l.length → Rt 80000 (acR (l.take k)) := fun k hk => (acR_rt (by decide) hr 48 hn k).le (by decide)
  have step : ∀ (k : Nat) (hk : k < l.length) (W : World), Calls Tryz.prog 110 #[.agg #[.int .i64 ((acR (l.take k))).1, .int .i64 ((acR (l.take k))).2], .agg #[.int .i64 (l[k]).1, .int .i64 (l[k]).2]] W fun e w' => e = .returned (.agg #[.int .i64 ((acR (l.take (k + 1)))).1, .int .i64 ((acR (l.take (k + 1)))).2]) ∧ Below W.heap.size W w' := fun k hk W => by
    have := plus3_any (acR (l.take k)) l[k] W (key k (by omega)) ((hr _ (List.getElem_mem hk)).le (by decide))
    rw [acR_take hr k hk] at this
    exact this
  have last := key l.length (Nat.le_refl _)
  rw [acR_all] at last
  have lm := Int.le_of_dvd MM_pos last.dvd
  have lp := last.pos
  have lo := last.lo
  have hi := last.hi
  have eMM : MM = 2562890625 := rfl
  have hq0 : 0 < (acR l).2 * (l.length : Int) := Int.mul_pos lp (by omega)
  have hq1 : (acR l).2 * (l.length : Int) ≤ 2562890625 * 48 := Int.mul_le_mul (by omega) (by omega) (by omega) (by decide)
  have cL := fun W : World => lowest3_any (acR l).1 ((acR l).2 * (l.length : Int)) W (by omega) (by omega)
  rw [mean_ac l hl] at cL
  have a0 : acR (l.take 0) = (0, 1) := by rw [List.take_zero]; exact acR_nil
  have aL := acR_all l
  have H := Lib.hid h
  have ST := Lib.hid step
  have A0 := Lib.hid a0
  have AL := Lib.hid aL
  clear h hr key step last lo hi eMM a0 aL
  generalize meanR l = z at *
  go_enter Tryz.func79, Tryz.ntmps79
  go_wp2
  have b0 : Below w.heap.size w ((w.alloc (.cells #[.int .i64 0, .int .i64 0] 46)).alloc (.cells #[.int .i64 0, .int .i64 1] 46)) := by repeat (first | (with_reducible exact Below.refl _ _) | (with_reducible refine Below.setCell ?_ ?_ _) | (with_reducible refine Below.drew ?_) | (with_reducible refine Below.alloc ?_ ?_ _) | omega | (simp <;> omega))
  have r0 : RB ((w.alloc (.cells #[.int .i64 0, .int .i64 0] 46)).alloc (.cells #[.int .i64 0, .int .i64 1] 46)) w.heap.size (0, 0) := ⟨by simp [go_sem], by simp [go_sem], fun j => by simp [go_sem], by simp <;> omega⟩
  have s0 : RB ((w.alloc (.cells #[.int .i64 0, .int .i64 0] 46)).alloc (.cells #[.int .i64 0, .int .i64 1] 46)) (w.heap.size + 1) (0, 1) := ⟨by simp [go_sem], by simp [go_sem], fun j => by simp [go_sem], by simp <;> omega⟩
  go_loopw [9] (fun q wr => ∃ k : Nat, k ≤ l.length ∧ q = .int .i64 k ∧ RB wr w.heap.size (0, 0) ∧ RB wr (w.heap.size + 1) (acR (l.take k)) ∧ Below w.heap.size w wr) (fun q _ => l.length - (intOf q).toNat)
  case atStart => exact ⟨0, by omega, rfl, r0, by rw [A0.out]; exact s0, b0⟩
  case round =>
    obtain ⟨k, hk, rfl, hr0, hs0, hb⟩ := hrel
    clear r0 s0 b0
    have HR := Lib.hid hr0
    have HS := Lib.hid hs0
    have hbs := hb.size
    have hsl := hs0.lt
    clear hr0
    by_cases hlt : k < l.length
    · have i1 : (k : Int) < (l.length : Int) := by omega
      obtain ⟨b, off, rfl, x0, x1⟩ := rl_at (H.out.later hb) hlt
      have d := ST.out k hlt
      obtain ⟨c0, c1, -, -⟩ := hs0
      have hlb := World.block_lt_of_cell? wr _ x0
      generalize l[k] = x at *
      generalize acR (l.take k) = y at *
      generalize hy' : acR (l.take (k + 1)) = y' at *
      have HY := Lib.hid hy'
      clear hy'
      go_wp2_with (fail)
      refine (d _).mono ?_
      rintro e w3 ⟨rfl, hw3⟩
      have HR3 := (HR.out.later ba1).later hw3
      have HS3 := (HS.out.later ba1).later hw3
      have b3 : Below w.heap.size w w3 := by repeat (first | (with_reducible exact Below.refl _ _) | (with_reducible refine Below.setCell ?_ ?_ _) | (with_reducible refine Below.drew ?_) | (with_reducible refine Below.alloc ?_ ?_ _) | (with_reducible refine Below.trans ?_ (Below.mono hw3 ?_)) | (with_reducible refine Below.trans ?_ (Below.mono hb ?_)) | (with_reducible exact hw3.size) | (with_reducible exact hb.size) | omega | (simp <;> omega) | (simp <;> (have s := hw3.size; omega)) | (simp <;> (have s := hb.size; omega)) | (have s0 := hw3.size; (try simp at s0); have s1 := hb.size; (try simp at s1); (try simp); omega))
      have b3s := b3.size
      have cells := HS3
      obtain ⟨c0', c1', cf', -⟩ := cells
      clear c0 c1 x0 x1
      go_wp2
      exact ⟨⟨k + 1, by omega, by go_num, HR3.aside (by omega) _ _, by rw [HY.out]; exact HS3.put y', by repeat (first | (with_reducible exact Below.refl _ _) | (with_reducible refine Below.setCell ?_ ?_ _) | (with_reducible refine Below.drew ?_) | (with_reducible refine Below.alloc ?_ ?_ _) | (with_reducible refine Below.trans ?_ (Below.mono hw3 ?_)) | (with_reducible refine Below.trans ?_ (Below.mono hb ?_)) | (with_reducible exact hw3.size) | (with_reducible exact hb.size) | omega | (simp <;> omega) | (simp <;> (have s := hw3.size; omega)) | (simp <;> (have s := hb.size; omega)) | (have s0 := hw3.size; (try simp at s0); have s1 := hb.size; (try simp at s1); (try simp); omega))⟩, by simp [intOf]; omega⟩
    · obtain rfl : l.length = k := by omega
      rw [AL.out] at hs0
      obtain ⟨c0, c1, -, -⟩ := hs0
      obtain ⟨q0, q1, qf, ql⟩ := HR.out
      go_wp2_with (fail)
      refine (cL _).mono ?_
      rintro e w3 ⟨rfl, hw3⟩
      obtain ⟨q0', q1', qf', ql'⟩ := HR.out.later hw3
      go_wp2
      refine bodyPost_ret (v := .agg #[.int .i64 (z).1, .int .i64 (z).2]) ?_ rfl ⟨rfl, ?_⟩
      · simp [results, Tryz.results79, go_sem, q0', q1', ql']
      · repeat (first | (with_reducible exact Below.refl _ _) | (with_reducible refine Below.setCell ?_ ?_ _) | (with_reducible refine Below.drew ?_) | (with_reducible refine Below.alloc ?_ ?_ _) | (with_reducible refine Below.trans ?_ (Below.mono hw3 ?_)) | (with_reducible refine Below.trans ?_ (Below.mono hb ?_)) | (with_reducible exact hw3.size) | (with_reducible exact hb.size) | omega | (simp <;> omega) | (simp <;> (have s := hw3.size; omega)) | (simp <;> (have s := hb.size; omega)) | (have s0 := hw3.size; (try simp at s0); have s1 := hb.size; (try simp at s1); (try simp); omega))
end Go.Proofs.YtkgihmhehkaocaaGreat

/- Sums of rational numbers over their least common denominator, as the document's answers make them.
Conditions: those written at each theorem. -/
namespace Go.Proofs.YtkgihmhehkaocaaGreat
set_option linter.unusedVariables false
set_option linter.unusedSimpArgs false
set_option maxRecDepth 1000000
open Go.RowKit
open Um Tm Lm

structure LcS (m d p : Int) : Prop where
  g0 : 0 < gc m d
  e : m = gc m d * p
  p0 : 0 ≤ p
  pM : p ≤ MM
  m0 : 0 < m
  mM : m ≤ MM
  d0 : 0 < d
  dM : d ≤ MM
  q0 : 0 < p * d
  qM : p * d ≤ MM
structure SmS (m k s : Int) (r : Int × Int) (u : Int) : Prop where
  d0 : 0 < r.2
  e : m = r.2 * u
  u0 : 0 ≤ u
  uM : u ≤ MM
  x0 : -(k * MM) ≤ r.1 * u
  x1 : r.1 * u ≤ k * MM
  s0 : -(k * MM * 48) ≤ s
  s1 : s ≤ k * MM * 48
end Go.Proofs.YtkgihmhehkaocaaGreat
