/- What lies in memory behind a call in a region that draws its order.
Conditions: those written at each theorem. -/
import Derived.Test.YtkgihmhehkaocaaGreatPWlkA
import Derived.Deep.RegionHeld3
import Derived.Test.YtkgihmhehkaocaaGreatPQuatB
import Derived.Test.YtkgihmhehkaocaaGreatPQuatA
import Derived.Test.YtkgihmhehkaocaaGreatPGauA
import Derived.Test.YtkgihmhehkaocaaGreatPGauB
import Derived.Test.YtkgihmhehkaocaaGreatPLinksC
import Derived.Test.YtkgihmhehkaocaaGreatPAlongC
import Derived.Test.YtkgihmhehkaocaaGreatPProduct
namespace Go.Proofs.YtkgihmhehkaocaaGreat
set_option linter.unusedVariables false
set_option linter.unusedSimpArgs false
set_option maxRecDepth 1000000
open Go.RowKit

theorem belDG {w w1 : World} (h : Below w.drew.heap.size w.drew w1) : Below w.heap.size w w1 := ⟨h.os, h.tape, h.output, h.size, h.block⟩
theorem held_belowG {W W1 : World} {b i : Nat} {v : Value} (h : Below W.heap.size W W1) (hc : W.cell? ⟨b, i, none⟩ = some v) : W1.cell? ⟨b, i, none⟩ = some v := (h.cell (World.block_lt_of_cell? W _ hc)).trans hc
theorem alloc_atG {w : World} {o : Obj} : (w.alloc o).heap[w.heap.size]? = some o := by
  show (w.heap.push o)[w.heap.size]? = some o
  simp
open Um
theorem one_boxI {w : World} {b : Nat} {x : Q} (h : LBox w b [x]) : (w.cell? ⟨b, 0, none⟩ = some (.int .i64 x.a) ∧ w.cell? ⟨b, 1, none⟩ = some (.int .i64 x.b) ∧ w.cell? ⟨b, 2, none⟩ = some (.int .i64 x.c) ∧ w.cell? ⟨b, 3, none⟩ = some (.int .i64 x.d) ∧ w.cell? ⟨b, 4, none⟩ = some (.int .i64 x.n)) ∧ (∀ j, w.frozen? ⟨b, j, none⟩ = false) ∧ b < w.heap.size := ⟨by simpa using h.h 0 x rfl, h.free, h.lt⟩
theorem owned5_form' {w : World} {base : Nat} {T : TypeId} {v : Value} {n : Nat} {xs : List Value} (h : w.ownsRow base T 5 v n xs) : ∃ ao cap, v = .slice ao n cap := by
  rcases h.2 with ⟨h', h0⟩ | ⟨g', cap', cur, h', hb, hg, _⟩
  · exact ⟨none, 0, by rw [h', h0]⟩
  · exact ⟨_, _, h'⟩
end Go.Proofs.YtkgihmhehkaocaaGreat

/- Products of two units in lowest terms, without a limit, as the document's answers make them.
Conditions: the bounds written at each theorem. -/
namespace Go.Proofs.YtkgihmhehkaocaaGreat
set_option linter.unusedVariables false
set_option linter.unusedSimpArgs false
set_option maxRecDepth 1000000
open Go.RowKit
open Um

set_option maxHeartbeats 800000 in
theorem gcd4_any (m n : Int) (w : World) (hm : -4611686018427387904 ≤ m ∧ m ≤ 4611686018427387904) (hn : -4611686018427387904 ≤ n ∧ n ≤ 4611686018427387904) :
    Calls Tryz.prog 114 #[.int .i64 m, .int .i64 n] w fun e w' => e = .returned (.int .i64 (gc m n)) ∧ Below w.heap.size w w' := by
  obtain ⟨hm1, hm2⟩ := hm
  obtain ⟨hn1, hn2⟩ := hn
  have em : IntKind.i64.wrap (-m) = -m := IntWalk.i64_in _ (by omega)
  have en : IntKind.i64.wrap (-n) = -n := IntWalk.i64_in _ (by omega)
  by_cases a : m < -m
  all_goals by_cases b : n < -n
  all_goals
    go_enter Tryz.func114, Tryz.ntmps114
    go_wp2
    go_loopw [0, 1, 5] (fun p q _ wr => ∃ x y : Int, p = .int .i64 x ∧ q = .int .i64 y ∧ 0 ≤ x ∧ x ≤ 4611686018427387904 ∧ 0 ≤ y ∧ y ≤ 4611686018427387904 ∧ gc x y = gc m n ∧ Below w.heap.size w wr) (fun _ q _ _ => (intOf q).natAbs)
    case atStart => 
      exact ⟨_, _, rfl, rfl, by omega, by omega, by omega, by omega, by simp [gc], Below.refl _ _⟩
    case round =>
      obtain ⟨x, y, rfl, rfl, hx1, hx2, hy1, hy2, hg, hb⟩ := hrel
      have HG := Lib.hid hg
      clear hg a b hm1 hm2 hn1 hn2 em en
      by_cases h0 : y = 0
      · subst h0
        go_wp2
        go_ret
        exact ⟨by have := HG.out; rw [gc_zero] at this; rw [← this]; refine congrArg Ending.returned (congrArg (Value.int .i64) ?_); omega, hb⟩
      · have h0' : (y != 0) = true := by simpa using h0
        have h1' : (y == 0) = false := by simpa using h0
        have h1 : 0 < y := by omega
        go_wp2
        have ht := tmod_small x y h0
        rw [Int.tmod_eq_emod_of_nonneg hx1] at ht
        have q0 := Int.emod_nonneg x h0
        have q1 := Int.emod_lt_of_pos x h1
        exact ⟨⟨y, x % y, rfl, rfl, by omega, by omega, by omega, by omega, by rw [gc_step' x y hx1]; exact HG.out, hb⟩, by simpa [intOf] using ht⟩
theorem g_eq4 (x : Q) : (g x : Int) = gc x.n (gc (gc x.a x.b) (gc x.c x.d)) := by
  simp only [gc, g, Int.natAbs_natCast]
  simp only [Nat.gcd_comm, Nat.gcd_left_comm, Nat.gcd_assoc]
theorem gc_fit2 (m n : Int) (hm : -4611686018427387904 ≤ m ∧ m ≤ 4611686018427387904) (hn : -4611686018427387904 ≤ n ∧ n ≤ 4611686018427387904) : -4611686018427387904 ≤ gc m n ∧ gc m n ≤ 4611686018427387904 := by
  have h0 := gc_nonneg m n
  by_cases h : m = 0
  · subst h
    have : gc 0 n = n.natAbs := by simp [gc]
    omega
  · have := gc_dvd_left m n h
    omega
set_option maxHeartbeats 1600000 in
theorem lowest4_any (x : Q) (w : World) (hx : In x 4611686018427387904) : Calls Tryz.prog 85 #[.agg #[.int .i64 x.a, .int .i64 x.b, .int .i64 x.c, .int .i64 x.d, .int .i64 x.n]] w fun e w' => e = .returned (.agg #[.int .i64 (low x).a, .int .i64 (low x).b, .int .i64 (low x).c, .int .i64 (low x).d, .int .i64 (low x).n]) ∧ Below w.heap.size w w' := by
  have hx' := hx
  have hg := g_pos x hx.n.1
  obtain ⟨ha, hb, hc, hd, hn1, hn2⟩ := hx
  have f1 := gc_fit2 _ _ ha hb
  have f2 := gc_fit2 _ _ hc hd
  have f3 := gc_fit2 _ _ f1 f2
  have c1 := fun W : World => gcd4_any _ _ W ha hb
  have c2 := fun W : World => gcd4_any _ _ W hc hd
  have c3 := fun W : World => gcd4_any _ _ W f1 f2
  have c4 : ∀ W : World, Calls Tryz.prog 114 #[.int .i64 x.n, .int .i64 (gc (gc x.a x.b) (gc x.c x.d))] W fun e w' => e = .returned (.int .i64 (g x)) ∧ Below W.heap.size W w' := fun W => by
    rw [g_eq4]
    exact gcd4_any _ _ W (by omega) f3
  have hgn : ¬ g x = 0 := by omega
  have hg1 : (1 : Int) ≤ (g x : Int) := by omega
  have hg0 : ((g x : Int) == 0) = false := by simp; omega
  obtain ⟨wa, wb, wc, wd, wn⟩ := low_wraps x hx'
  have kc := @Tail.cell_re
  clear f1 f2 f3 ha hb hc hd hn1 hn2 hg hx'
  go_enter Tryz.func85, Tryz.ntmps85
  go_wp2
  refine Tail.region_below (by kernel_rfl) (by kernel_rfl) ?_
  repeat (go_big_quiet_step (first | (with_reducible exact Calls.regrown_of (c1 _)) | (with_reducible exact Calls.regrown_of (c2 _)) | (with_reducible exact Calls.regrown_of (c3 _)) | (with_reducible exact Calls.regrown_of (c4 _))))
  refine wpQuiet_nil ?_
  intro w1 hw1
  have hc := Tail.cells hw1
  have hz1 := Nat.lt_of_lt_of_le (n := w.heap.size) (by simp <;> omega) hw1.size
  have hz2 := Nat.lt_of_lt_of_le (n := w.heap.size + 1) (by simp <;> omega) hw1.size
  clear c1 c2 c3 c4
  go_wp2_with (fail)
  refine Tail.region_tail_below 21 (by kernel_rfl) (by kernel_rfl) ?_
  simp only [List.take_succ_cons, List.take_zero, List.drop_succ_cons, List.drop_zero]
  repeat (go_big_quiet_step (fail))
  refine wpQuiet_nil ?_
  intro w2 hw2
  have hc2 := Tail.cells hw2
  go_wp2
  refine bodyPost_ret (v := .agg #[.int .i64 (low x).a, .int .i64 (low x).b, .int .i64 (low x).c, .int .i64 (low x).d, .int .i64 (low x).n]) ?_ rfl ⟨rfl, ?_⟩
  · simp [results, Tryz.results85, go_sem, hc, hc2, hz2]
  · repeat (first | (with_reducible exact Below.refl _ _) | (with_reducible refine Below.setCell ?_ ?_ _) | (with_reducible refine Below.drew ?_) | (with_reducible refine Below.alloc ?_ ?_ _) | (with_reducible refine Below.trans ?_ (Below.mono hw2 ?_)) | (with_reducible refine Below.trans ?_ (Below.mono hw1 ?_)) | (with_reducible exact hw2.size) | (with_reducible exact hw1.size) | omega | (simp <;> omega) | (simp <;> (have s := hw2.size; omega)) | (simp <;> (have s := hw1.size; omega)) | (have s0 := hw2.size; (try simp at s0); have s1 := hw1.size; (try simp at s1); (try simp); omega))
theorem U_in {x : Q} (h : U x) {m : Int} (hm : x.n ≤ m) : In x m := by
  have hp := h.pos
  obtain ⟨p1, p2, p3, p4, p5, p6, p7, p8⟩ := part_le x h
  exact ⟨by omega, by omega, by omega, by omega, by omega⟩
theorem small2_U {x y : Q} (hx : U x) (hy : U y) (hn : x.n ≤ 1048576) (hm : y.n ≤ 1048576) : Small2 x y := by
  have i := U_in hx hn
  have j := U_in hy hm
  obtain ⟨xa, xb, xc, xd, xn1, xn2⟩ := i
  obtain ⟨ya, yb, yc, yd, yn1, yn2⟩ := j
  refine Small2.of (X := 1048576) (Y := 1048576) (by decide) (by decide) (fun p hp => ?_) (fun q hq => ?_)
  · rcases hp with rfl | rfl | rfl | rfl | rfl <;> omega
  · rcases hq with rfl | rfl | rfl | rfl | rfl <;> omega
set_option maxRecDepth 100000 in
set_option maxHeartbeats 1600000 in
theorem raw4_any (x y : Q) (w : World) (h : Small2 x y) : Calls Tryz.prog 50 #[.agg #[.int .i64 x.a, .int .i64 x.b, .int .i64 x.c, .int .i64 x.d, .int .i64 x.n], .agg #[.int .i64 y.a, .int .i64 y.b, .int .i64 y.c, .int .i64 y.d, .int .i64 y.n]] w fun e w' => e = .returned (.agg #[.int .i64 (mul x y).a, .int .i64 (mul x y).b, .int .i64 (mul x y).c, .int .i64 (mul x y).d, .int .i64 (mul x y).n]) ∧ Below w.heap.size w w' := by
  obtain ⟨aa1, aa2⟩ := h.h x.a y.a (by simp) (by simp)
  obtain ⟨ab1, ab2⟩ := h.h x.a y.b (by simp) (by simp)
  obtain ⟨ac1, ac2⟩ := h.h x.a y.c (by simp) (by simp)
  obtain ⟨ad1, ad2⟩ := h.h x.a y.d (by simp) (by simp)
  obtain ⟨ba1, ba2⟩ := h.h x.b y.a (by simp) (by simp)
  obtain ⟨bb1, bb2⟩ := h.h x.b y.b (by simp) (by simp)
  obtain ⟨bc1, bc2⟩ := h.h x.b y.c (by simp) (by simp)
  obtain ⟨bd1, bd2⟩ := h.h x.b y.d (by simp) (by simp)
  obtain ⟨ca1, ca2⟩ := h.h x.c y.a (by simp) (by simp)
  obtain ⟨cb1, cb2⟩ := h.h x.c y.b (by simp) (by simp)
  obtain ⟨cc1, cc2⟩ := h.h x.c y.c (by simp) (by simp)
  obtain ⟨cd1, cd2⟩ := h.h x.c y.d (by simp) (by simp)
  obtain ⟨da1, da2⟩ := h.h x.d y.a (by simp) (by simp)
  obtain ⟨db1, db2⟩ := h.h x.d y.b (by simp) (by simp)
  obtain ⟨dc1, dc2⟩ := h.h x.d y.c (by simp) (by simp)
  obtain ⟨dd1, dd2⟩ := h.h x.d y.d (by simp) (by simp)
  obtain ⟨nn1, nn2⟩ := h.h x.n y.n (by simp) (by simp)
  clear h
  go_enter Tryz.func50, Tryz.ntmps50
  go_wp2
  refine bodyPost_ret (v := .agg #[.int .i64 (mul x y).a, .int .i64 (mul x y).b, .int .i64 (mul x y).c, .int .i64 (mul x y).d, .int .i64 (mul x y).n]) ?_ rfl ⟨rfl, ?_⟩
  · simp [results, Tryz.results50, go_sem, mul]
  · repeat (first | exact Below.refl _ _ | refine Below.setCell ?_ (by simp) _ | refine Below.alloc ?_ (by simp; try omega) _)
set_option maxHeartbeats 800000 in
theorem mul4_any (x y : Q) (w : World) (hx : U x) (hy : U y) (hn : x.n ≤ 1048576) (hm : y.n ≤ 1048576) : Calls Tryz.prog 91 #[.agg #[.int .i64 x.a, .int .i64 x.b, .int .i64 x.c, .int .i64 x.d, .int .i64 x.n], .agg #[.int .i64 y.a, .int .i64 y.b, .int .i64 y.c, .int .i64 y.d, .int .i64 y.n]] w fun e w' => e = .returned (.agg #[.int .i64 (low (mul x y)).a, .int .i64 (low (mul x y)).b, .int .i64 (low (mul x y)).c, .int .i64 (low (mul x y)).d, .int .i64 (low (mul x y)).n]) ∧ Below w.heap.size w w' := by
  have c1 := fun W : World => raw4_any x y W (small2_U hx hy hn hm)
  have hxp := hx.pos
  have hyp := hy.pos
  have hp : x.n * y.n ≤ 1048576 * 1048576 := Int.mul_le_mul hn hm (by omega) (by decide)
  have c2 := fun W : World => lowest4_any (mul x y) W (U_in (mul_len x y hx hy) (show x.n * y.n ≤ 4611686018427387904 by omega))
  clear hx hy hn hm hxp hyp hp
  generalize mul x y = z at *
  go_enter Tryz.func91, Tryz.ntmps91
  go_wp2_with (fail)
  refine (c1 _).mono ?_
  rintro e w1 ⟨rfl, hw1⟩
  have hc1 := Tail.cells hw1
  have zw10 := Nat.lt_of_lt_of_le (n := w.heap.size) (by simp <;> omega) hw1.size; have zw11 := Nat.lt_of_lt_of_le (n := w.heap.size + 1) (by simp <;> omega) hw1.size; have zw12 := Nat.lt_of_lt_of_le (n := w.heap.size + 2) (by simp <;> omega) hw1.size
  go_wp2_with (fail)
  refine (c2 _).mono ?_
  rintro e w2 ⟨rfl, hw2⟩
  have hc2 := Tail.cells hw2
  have z2 := Nat.lt_of_lt_of_le zw12 hw2.size
  go_wp2
  refine bodyPost_ret (v := .agg #[.int .i64 (low z).a, .int .i64 (low z).b, .int .i64 (low z).c, .int .i64 (low z).d, .int .i64 (low z).n]) ?_ rfl ⟨rfl, ?_⟩
  · simp [results, Tryz.results91, go_sem, hc1, hc2, zw10, zw11, zw12, z2]
  · repeat (first | (with_reducible exact Below.refl _ _) | (with_reducible refine Below.setCell ?_ ?_ _) | (with_reducible refine Below.drew ?_) | (with_reducible refine Below.alloc ?_ ?_ _) | (with_reducible refine Below.trans ?_ (Below.mono hw2 ?_)) | (with_reducible refine Below.trans ?_ (Below.mono hw1 ?_)) | (with_reducible exact hw2.size) | (with_reducible exact hw1.size) | omega | (simp <;> omega) | (simp <;> (have s := hw2.size; omega)) | (simp <;> (have s := hw1.size; omega)) | (have s0 := hw2.size; (try simp at s0); have s1 := hw1.size; (try simp at s1); (try simp); omega))
end Go.Proofs.YtkgihmhehkaocaaGreat

/- A field that is transformed, as the program makes it.
Conditions: those written at each theorem. -/
namespace Go.Proofs.YtkgihmhehkaocaaGreat
set_option linter.unusedVariables false
set_option linter.unusedSimpArgs false
set_option maxRecDepth 1000000
open Go.RowKit
open Um Tm

/-- link k of the transformed field -/
def tfK (a b c : Int) (L G : List Q) (k : Nat) : Q := low (mul (mul (lk G ((k / 3 : Nat) : Int)) (lk L (k : Int))) (bar (lk G (ahd a b c k))))
/-- the links of the transformed field -/
def tfL (a b c : Int) (L G : List Q) : List Q := (List.range L.length).map (tfK a b c L G)
theorem tfL_len (a b c : Int) (L G : List Q) : (tfL a b c L G).length = L.length := by simp [tfL]
theorem tfL_get {a b c : Int} {L G : List Q} {k : Nat} (hk : k < L.length) : (tfL a b c L G)[k]? = some (tfK a b c L G k) := by
  simp [tfL, hk]
/-- a list of units that a field of so many links can be transformed by -/
structure Gg (L G : List Q) : Prop where
  n : 3 * G.length = L.length
  v : ∀ (i : Nat) (x : Q), G[i]? = some x → V x ∧ x.n ≤ 5
theorem lies3 {w : World} {g : Nat} {T : TypeId} {x y z : Q} (h : w.heap[g]? = some (.cells (uc x ++ uc y ++ uc z).toArray T)) : Lies w g 0 [x, y, z] := fun i u hu => by
  match i, hu with
  | 0, hu => simp at hu; subst hu; exact ⟨Wide.cell_at h 0 _ rfl, Wide.cell_at h 1 _ rfl, Wide.cell_at h 2 _ rfl, Wide.cell_at h 3 _ rfl, Wide.cell_at h 4 _ rfl⟩
  | 1, hu => simp at hu; subst hu; exact ⟨Wide.cell_at h 5 _ rfl, Wide.cell_at h 6 _ rfl, Wide.cell_at h 7 _ rfl, Wide.cell_at h 8 _ rfl, Wide.cell_at h 9 _ rfl⟩
  | 2, hu => simp at hu; subst hu; exact ⟨Wide.cell_at h 10 _ rfl, Wide.cell_at h 11 _ rfl, Wide.cell_at h 12 _ rfl, Wide.cell_at h 13 _ rfl, Wide.cell_at h 14 _ rfl⟩
  | n + 3, hu => simp at hu
theorem lies3n {w : World} {T : TypeId} {x y z : Q} : Lies (w.alloc (.cells #[.int .i64 x.a, .int .i64 x.b, .int .i64 x.c, .int .i64 x.d, .int .i64 x.n, .int .i64 y.a, .int .i64 y.b, .int .i64 y.c, .int .i64 y.d, .int .i64 y.n, .int .i64 z.a, .int .i64 z.b, .int .i64 z.c, .int .i64 z.d, .int .i64 z.n] T)) w.heap.size 0 [x, y, z] := lies3 (g := w.heap.size) (T := T) alloc_atG
theorem fm3 (x y z : Q) : fm [x, y, z] = mul (mul x y) z := by
  simp [fm, one_mul']
theorem lk_at {L : List Q} {i : Nat} (h : i < L.length) : L[i]? = some (lk L (i : Int)) := by
  have := lk_get (L := L) (i := (i : Int)) (by omega) (by omega)
  simpa using this
theorem ahd_rng {a b c : Int} (hz : Sz a b c) (k : Nat) : 0 ≤ ahd a b c k ∧ ahd a b c k < a * b * c := nx_rng hz _ _
theorem one_box {w : World} {b : Nat} {x : Q} (h : LBox w b [x]) : (w.cell? ⟨b, 0, none⟩ = some (.int .i64 x.a) ∧ w.cell? ⟨b, 1, none⟩ = some (.int .i64 x.b) ∧ w.cell? ⟨b, 2, none⟩ = some (.int .i64 x.c) ∧ w.cell? ⟨b, 3, none⟩ = some (.int .i64 x.d) ∧ w.cell? ⟨b, 4, none⟩ = some (.int .i64 x.n)) ∧ (∀ j, w.frozen? ⟨b, j, none⟩ = false) ∧ b < w.heap.size := ⟨by simpa using h.h 0 x rfl, h.free, h.lt⟩
set_option maxHeartbeats 3200000 in
theorem trd_any (a b c : Int) (bl off cap gl goff gc k : Nat) (L G : List Q) (w : World) (hl : Lies w bl off L) (hg : Lies w gl goff G) (hF : Fl a b c L) (hG : Gg L G) (hk : k < L.length) :
    Calls Tryz.prog 33 #[.agg #[.int .i64 a, .int .i64 b, .int .i64 c, .slice (some ⟨bl, off, none⟩) L.length cap], .slice (some ⟨gl, goff, none⟩) G.length gc, .int .i64 k] w fun e w' => e = .returned (.tuple #[.agg #[.int .i64 (tfK a b c L G k).a, .int .i64 (tfK a b c L G k).b, .int .i64 (tfK a b c L G k).c, .int .i64 (tfK a b c L G k).d, .int .i64 (tfK a b c L G k).n], .int .i64 0]) ∧ Below w.heap.size w w' := by
  have hz := hF.z
  have hn := hF.n
  have hgn := hG.n
  have c1 := fun W : World => ends_ok a b c k W hz (by omega)
  obtain ⟨t0, t1⟩ := ahd_rng hz k
  have hx := lk_at (L := G) (i := k / 3) (by omega)
  have hy := lk_at (L := L) (i := k) hk
  obtain ⟨t, ht⟩ : ∃ t : Nat, ahd a b c k = (t : Int) := ⟨(ahd a b c k).toNat, by omega⟩
  have hzz := lk_at (L := G) (i := t) (by omega)
  obtain ⟨vx, x5⟩ := hG.v _ _ hx
  obtain ⟨vz, z5⟩ := hG.v _ _ hzz
  obtain ⟨vy, y5⟩ := hF.v _ _ hy
  have it : (t : Int) < (G.length : Int) := by omega
  have ik : (k : Int) < (L.length : Int) := by omega
  have ik3 : ((k / 3 : Nat) : Int) < (G.length : Int) := by omega
  have hT : tfK a b c L G k = low (mul (mul (lk G ((k / 3 : Nat) : Int)) (lk L (k : Int))) (bar (lk G (t : Int)))) := by rw [tfK, ht]
  rw [ht] at c1
  rw [hT]
  have c2 := fun W : World => inv_ok (lk G (t : Int)) W vz
  have hp := prod_links [lk G ((k / 3 : Nat) : Int), lk L (k : Int), bar (lk G (t : Int))] (fun u hu => by
    simp only [List.mem_cons, List.not_mem_nil, or_false] at hu
    rcases hu with rfl | rfl | rfl
    · exact ⟨vx, x5⟩
    · exact ⟨vy, y5⟩
    · exact ⟨vz.bar, z5⟩) (by simp)
  rw [fm3] at hp
  have c3 := fun (W : World) (B : Nat) (h : Lies W B 0 [lk G ((k / 3 : Nat) : Int), lk L (k : Int), bar (lk G (t : Int))]) => quatProduct_some B 0 3 _ _ _ W h (fun u hu => by
    simp only [List.mem_cons, List.not_mem_nil, or_false] at hu
    rcases hu with rfl | rfl | rfl
    · exact vx
    · exact vy
    · exact vz.bar) (by simp) hp
  have gw : gl < w.heap.size := World.block_lt_of_cell? _ _ (hg _ _ hx).1
  have bw : bl < w.heap.size := World.block_lt_of_cell? _ _ (hl _ _ hy).1
  have H := Lib.hid hl
  have HG := Lib.hid hg
  have HX := Lib.hid hx
  have HY := Lib.hid hy
  have HZ := Lib.hid hzz
  clear hl hg hx hy hzz hF hG hz hn hgn t0 t1 ht vx vy vz x5 y5 z5 hT hp hk
  generalize lk G ((k / 3 : Nat) : Int) = x at *
  generalize lk L (k : Int) = y at *
  generalize lk G (t : Int) = z at *
  generalize low (mul (mul x y) (bar z)) = r at *
  generalize bar z = z' at *
  generalize k / 3 = q at *
  go_enter Tryz.func33, Tryz.ntmps33
  have F0 := Lib.hid (FW.n2a (w := w) (x := a) (y := b) (z := c) (v := .slice (some ⟨bl, off, none⟩) L.length cap) (T := 25) (o := .cells #[.int .i64 0, .int .i64 0, .int .i64 0, .int .i64 0, .int .i64 0] 55))
  have R0 : LBox ((w.alloc (.cells #[.int .i64 a, .int .i64 b, .int .i64 c, .slice (some ⟨bl, off, none⟩) L.length cap] 25)).alloc (.cells #[.int .i64 0, .int .i64 0, .int .i64 0, .int .i64 0, .int .i64 0] 55)) (w.heap.size + 1) [zero] := ⟨fun i u hu => by
    match i, hu with
    | 0, hu => simp at hu; subst hu; exact ⟨by simp [go_sem, zero], by simp [go_sem, zero], by simp [go_sem, zero], by simp [go_sem, zero], by simp [go_sem, zero]⟩
    | n + 1, hu => simp at hu, fun j => by simp [go_sem], by simp⟩
  have HR0 := Lib.hid R0
  clear R0
  go_wp2_with (fail)
  refine (c1 _).mono ?_
  rintro e w1 ⟨rfl, hw1⟩
  have F1 := Lib.hid (F0.out.later hw1)
  have R1 := Lib.hid (HR0.out.later hw1)
  have b1 : Below w.heap.size w w1 := bel2 hw1
  clear c1 F0 HR0 hw1
  obtain ⟨l0, l1, l2, l3, l4⟩ := (HG.out.later b1) _ _ HZ.out
  go_wp2_with (fail)
  refine (c2 _).mono ?_
  rintro e w2 ⟨rfl, hw2⟩
  have F2 := Lib.hid (F1.out.later hw2)
  have R2 := Lib.hid (R1.out.later hw2)
  have b2 := b1.trans (hw2.mono b1.size)
  clear c2 F1 R1 hw2 l0 l1 l2 l3 l4 b1
  go_wp2
  have rw2 := R2.out.lt
  have BX : Below w2.heap.size w2 (w2.alloc (.cells #[.int .i64 z'.a, .int .i64 z'.b, .int .i64 z'.c, .int .i64 z'.d, .int .i64 z'.n] 55)) := ba1
  have Z3 : LBox (w2.alloc (.cells #[.int .i64 z'.a, .int .i64 z'.b, .int .i64 z'.c, .int .i64 z'.d, .int .i64 z'.n] 55)) w2.heap.size [z'] := ⟨fun i u hu => by
    match i, hu with
    | 0, hu => simp at hu; subst hu; exact ⟨by simp [go_sem], by simp [go_sem], by simp [go_sem], by simp [go_sem], by simp [go_sem]⟩
    | n + 1, hu => simp at hu, fun j => by simp [go_sem], by simp⟩
  have b3 := b2.trans (BX.mono b2.size)
  have F3 := Lib.hid (F2.out.later BX)
  have R3 := Lib.hid (R2.out.later BX)
  have HZ3 := Lib.hid Z3
  clear BX Z3 F2 R2 b2
  generalize w2.alloc (.cells #[.int .i64 z'.a, .int .i64 z'.b, .int .i64 z'.c, .int .i64 z'.d, .int .i64 z'.n] 55) = X at *
  generalize w2.heap.size = B2 at *
  obtain ⟨l0, l1, l2, l3, l4⟩ := (HG.out.later b3) _ _ HX.out
  obtain ⟨m0, m1, m2, m3, m4⟩ := (H.out.later b3) _ _ HY.out
  obtain ⟨z0, z1, z2, z3, z4⟩ := HZ3.out.h 0 _ rfl
  obtain ⟨f0, f1, f2, f3, ff, fl⟩ := F3.out
  have lb1 : gl < X.heap.size := World.block_lt_of_cell? _ _ l0
  have lb2 : bl < X.heap.size := World.block_lt_of_cell? _ _ m0
  have lb3 : B2 < X.heap.size := World.block_lt_of_cell? _ _ z0
  simp only [Nat.zero_add, Nat.zero_mul] at z0 z1 z2 z3 z4
  have hX := b3.size
  have c4 : ∀ W : World, Calls Tryz.prog 65 #[.slice (some ⟨W.heap.size, 0, none⟩) 3 3] (W.alloc (.cells #[.int .i64 x.a, .int .i64 x.b, .int .i64 x.c, .int .i64 x.d, .int .i64 x.n, .int .i64 y.a, .int .i64 y.b, .int .i64 y.c, .int .i64 y.d, .int .i64 y.n, .int .i64 z'.a, .int .i64 z'.b, .int .i64 z'.c, .int .i64 z'.d, .int .i64 z'.n] 55)).drew fun e w' => e = .returned (.tuple #[.agg #[.int .i64 r.a, .int .i64 r.b, .int .i64 r.c, .int .i64 r.d, .int .i64 r.n], .int .i64 0]) ∧ Below (W.alloc (.cells #[.int .i64 x.a, .int .i64 x.b, .int .i64 x.c, .int .i64 x.d, .int .i64 x.n, .int .i64 y.a, .int .i64 y.b, .int .i64 y.c, .int .i64 y.d, .int .i64 y.n, .int .i64 z'.a, .int .i64 z'.b, .int .i64 z'.c, .int .i64 z'.d, .int .i64 z'.n] 55)).drew.heap.size (W.alloc (.cells #[.int .i64 x.a, .int .i64 x.b, .int .i64 x.c, .int .i64 x.d, .int .i64 x.n, .int .i64 y.a, .int .i64 y.b, .int .i64 y.c, .int .i64 y.d, .int .i64 y.n, .int .i64 z'.a, .int .i64 z'.b, .int .i64 z'.c, .int .i64 z'.d, .int .i64 z'.n] 55)).drew w' := fun W => c3 _ _ (fun i u hu => lies3n i u hu)
  clear c3
  have K5 : Hid (∀ w' : World, Below X.heap.size X w' → (w'.cell? ⟨gl, goff + q * 5, none⟩ = some (.int .i64 x.a) ∧ w'.cell? ⟨gl, goff + q * 5 + 1, none⟩ = some (.int .i64 x.b) ∧ w'.cell? ⟨gl, goff + q * 5 + 2, none⟩ = some (.int .i64 x.c) ∧ w'.cell? ⟨gl, goff + q * 5 + 3, none⟩ = some (.int .i64 x.d) ∧ w'.cell? ⟨gl, goff + q * 5 + 4, none⟩ = some (.int .i64 x.n) ∧ w'.cell? ⟨bl, off + k * 5, none⟩ = some (.int .i64 y.a) ∧ w'.cell? ⟨bl, off + k * 5 + 1, none⟩ = some (.int .i64 y.b) ∧ w'.cell? ⟨bl, off + k * 5 + 2, none⟩ = some (.int .i64 y.c) ∧ w'.cell? ⟨bl, off + k * 5 + 3, none⟩ = some (.int .i64 y.d) ∧ w'.cell? ⟨bl, off + k * 5 + 4, none⟩ = some (.int .i64 y.n) ∧ w'.cell? ⟨B2, 0, none⟩ = some (.int .i64 z'.a) ∧ w'.cell? ⟨B2, 1, none⟩ = some (.int .i64 z'.b) ∧ w'.cell? ⟨B2, 2, none⟩ = some (.int .i64 z'.c) ∧ w'.cell? ⟨B2, 3, none⟩ = some (.int .i64 z'.d) ∧ w'.cell? ⟨B2, 4, none⟩ = some (.int .i64 z'.n) ∧ w'.cell? ⟨w.heap.size, 3, none⟩ = some (.slice (some ⟨bl, off, none⟩) L.length cap))) := Lib.hid (fun w' h => ⟨held_belowG h l0, held_belowG h l1, held_belowG h l2, held_belowG h l3, held_belowG h l4, held_belowG h m0, held_belowG h m1, held_belowG h m2, held_belowG h m3, held_belowG h m4, held_belowG h z0, held_belowG h z1, held_belowG h z2, held_belowG h z3, held_belowG h z4, held_belowG h f3⟩)
  have ng : some gl ≠ some (w.heap.size + 1) := fun e => by have := Option.some.inj e; omega
  have nb : some bl ≠ some (w.heap.size + 1) := fun e => by have := Option.some.inj e; omega
  have nz : some B2 ≠ some (w.heap.size + 1) := fun e => by have := Option.some.inj e; omega
  have nf : some w.heap.size ≠ some (w.heap.size + 1) := fun e => by have := Option.some.inj e; omega
  have K6 : Hid (∀ w' : World, Below X.heap.size X w' → ((((((w'.setCell ⟨w.heap.size + 1, 0, none⟩ (.int .i64 r.a)).setCell ⟨w.heap.size + 1, 1, none⟩ (.int .i64 r.b)).setCell ⟨w.heap.size + 1, 2, none⟩ (.int .i64 r.c)).setCell ⟨w.heap.size + 1, 3, none⟩ (.int .i64 r.d)).setCell ⟨w.heap.size + 1, 4, none⟩ (.int .i64 r.n)).cell? ⟨gl, goff + q * 5, none⟩ = some (.int .i64 x.a) ∧ (((((w'.setCell ⟨w.heap.size + 1, 0, none⟩ (.int .i64 r.a)).setCell ⟨w.heap.size + 1, 1, none⟩ (.int .i64 r.b)).setCell ⟨w.heap.size + 1, 2, none⟩ (.int .i64 r.c)).setCell ⟨w.heap.size + 1, 3, none⟩ (.int .i64 r.d)).setCell ⟨w.heap.size + 1, 4, none⟩ (.int .i64 r.n)).cell? ⟨gl, goff + q * 5 + 1, none⟩ = some (.int .i64 x.b) ∧ (((((w'.setCell ⟨w.heap.size + 1, 0, none⟩ (.int .i64 r.a)).setCell ⟨w.heap.size + 1, 1, none⟩ (.int .i64 r.b)).setCell ⟨w.heap.size + 1, 2, none⟩ (.int .i64 r.c)).setCell ⟨w.heap.size + 1, 3, none⟩ (.int .i64 r.d)).setCell ⟨w.heap.size + 1, 4, none⟩ (.int .i64 r.n)).cell? ⟨gl, goff + q * 5 + 2, none⟩ = some (.int .i64 x.c) ∧ (((((w'.setCell ⟨w.heap.size + 1, 0, none⟩ (.int .i64 r.a)).setCell ⟨w.heap.size + 1, 1, none⟩ (.int .i64 r.b)).setCell ⟨w.heap.size + 1, 2, none⟩ (.int .i64 r.c)).setCell ⟨w.heap.size + 1, 3, none⟩ (.int .i64 r.d)).setCell ⟨w.heap.size + 1, 4, none⟩ (.int .i64 r.n)).cell? ⟨gl, goff + q * 5 + 3, none⟩ = some (.int .i64 x.d) ∧ (((((w'.setCell ⟨w.heap.size + 1, 0, none⟩ (.int .i64 r.a)).setCell ⟨w.heap.size + 1, 1, none⟩ (.int .i64 r.b)).setCell ⟨w.heap.size + 1, 2, none⟩ (.int .i64 r.c)).setCell ⟨w.heap.size + 1, 3, none⟩ (.int .i64 r.d)).setCell ⟨w.heap.size + 1, 4, none⟩ (.int .i64 r.n)).cell? ⟨gl, goff + q * 5 + 4, none⟩ = some (.int .i64 x.n) ∧ (((((w'.setCell ⟨w.heap.size + 1, 0, none⟩ (.int .i64 r.a)).setCell ⟨w.heap.size + 1, 1, none⟩ (.int .i64 r.b)).setCell ⟨w.heap.size + 1, 2, none⟩ (.int .i64 r.c)).setCell ⟨w.heap.size + 1, 3, none⟩ (.int .i64 r.d)).setCell ⟨w.heap.size + 1, 4, none⟩ (.int .i64 r.n)).cell? ⟨bl, off + k * 5, none⟩ = some (.int .i64 y.a) ∧ (((((w'.setCell ⟨w.heap.size + 1, 0, none⟩ (.int .i64 r.a)).setCell ⟨w.heap.size + 1, 1, none⟩ (.int .i64 r.b)).setCell ⟨w.heap.size + 1, 2, none⟩ (.int .i64 r.c)).setCell ⟨w.heap.size + 1, 3, none⟩ (.int .i64 r.d)).setCell ⟨w.heap.size + 1, 4, none⟩ (.int .i64 r.n)).cell? ⟨bl, off + k * 5 + 1, none⟩ = some (.int .i64 y.b) ∧ (((((w'.setCell ⟨w.heap.size + 1, 0, none⟩ (.int .i64 r.a)).setCell ⟨w.heap.size + 1, 1, none⟩ (.int .i64 r.b)).setCell ⟨w.heap.size + 1, 2, none⟩ (.int .i64 r.c)).setCell ⟨w.heap.size + 1, 3, none⟩ (.int .i64 r.d)).setCell ⟨w.heap.size + 1, 4, none⟩ (.int .i64 r.n)).cell? ⟨bl, off + k * 5 + 2, none⟩ = some (.int .i64 y.c) ∧ (((((w'.setCell ⟨w.heap.size + 1, 0, none⟩ (.int .i64 r.a)).setCell ⟨w.heap.size + 1, 1, none⟩ (.int .i64 r.b)).setCell ⟨w.heap.size + 1, 2, none⟩ (.int .i64 r.c)).setCell ⟨w.heap.size + 1, 3, none⟩ (.int .i64 r.d)).setCell ⟨w.heap.size + 1, 4, none⟩ (.int .i64 r.n)).cell? ⟨bl, off + k * 5 + 3, none⟩ = some (.int .i64 y.d) ∧ (((((w'.setCell ⟨w.heap.size + 1, 0, none⟩ (.int .i64 r.a)).setCell ⟨w.heap.size + 1, 1, none⟩ (.int .i64 r.b)).setCell ⟨w.heap.size + 1, 2, none⟩ (.int .i64 r.c)).setCell ⟨w.heap.size + 1, 3, none⟩ (.int .i64 r.d)).setCell ⟨w.heap.size + 1, 4, none⟩ (.int .i64 r.n)).cell? ⟨bl, off + k * 5 + 4, none⟩ = some (.int .i64 y.n) ∧ (((((w'.setCell ⟨w.heap.size + 1, 0, none⟩ (.int .i64 r.a)).setCell ⟨w.heap.size + 1, 1, none⟩ (.int .i64 r.b)).setCell ⟨w.heap.size + 1, 2, none⟩ (.int .i64 r.c)).setCell ⟨w.heap.size + 1, 3, none⟩ (.int .i64 r.d)).setCell ⟨w.heap.size + 1, 4, none⟩ (.int .i64 r.n)).cell? ⟨B2, 0, none⟩ = some (.int .i64 z'.a) ∧ (((((w'.setCell ⟨w.heap.size + 1, 0, none⟩ (.int .i64 r.a)).setCell ⟨w.heap.size + 1, 1, none⟩ (.int .i64 r.b)).setCell ⟨w.heap.size + 1, 2, none⟩ (.int .i64 r.c)).setCell ⟨w.heap.size + 1, 3, none⟩ (.int .i64 r.d)).setCell ⟨w.heap.size + 1, 4, none⟩ (.int .i64 r.n)).cell? ⟨B2, 1, none⟩ = some (.int .i64 z'.b) ∧ (((((w'.setCell ⟨w.heap.size + 1, 0, none⟩ (.int .i64 r.a)).setCell ⟨w.heap.size + 1, 1, none⟩ (.int .i64 r.b)).setCell ⟨w.heap.size + 1, 2, none⟩ (.int .i64 r.c)).setCell ⟨w.heap.size + 1, 3, none⟩ (.int .i64 r.d)).setCell ⟨w.heap.size + 1, 4, none⟩ (.int .i64 r.n)).cell? ⟨B2, 2, none⟩ = some (.int .i64 z'.c) ∧ (((((w'.setCell ⟨w.heap.size + 1, 0, none⟩ (.int .i64 r.a)).setCell ⟨w.heap.size + 1, 1, none⟩ (.int .i64 r.b)).setCell ⟨w.heap.size + 1, 2, none⟩ (.int .i64 r.c)).setCell ⟨w.heap.size + 1, 3, none⟩ (.int .i64 r.d)).setCell ⟨w.heap.size + 1, 4, none⟩ (.int .i64 r.n)).cell? ⟨B2, 3, none⟩ = some (.int .i64 z'.d) ∧ (((((w'.setCell ⟨w.heap.size + 1, 0, none⟩ (.int .i64 r.a)).setCell ⟨w.heap.size + 1, 1, none⟩ (.int .i64 r.b)).setCell ⟨w.heap.size + 1, 2, none⟩ (.int .i64 r.c)).setCell ⟨w.heap.size + 1, 3, none⟩ (.int .i64 r.d)).setCell ⟨w.heap.size + 1, 4, none⟩ (.int .i64 r.n)).cell? ⟨B2, 4, none⟩ = some (.int .i64 z'.n) ∧ (((((w'.setCell ⟨w.heap.size + 1, 0, none⟩ (.int .i64 r.a)).setCell ⟨w.heap.size + 1, 1, none⟩ (.int .i64 r.b)).setCell ⟨w.heap.size + 1, 2, none⟩ (.int .i64 r.c)).setCell ⟨w.heap.size + 1, 3, none⟩ (.int .i64 r.d)).setCell ⟨w.heap.size + 1, 4, none⟩ (.int .i64 r.n)).cell? ⟨w.heap.size, 3, none⟩ = some (.slice (some ⟨bl, off, none⟩) L.length cap))) := Lib.hid (fun w' h => ⟨(grown_setCells (w.heap.size + 1) (uc r) 0 w').cell (held_belowG h l0) ng, (grown_setCells (w.heap.size + 1) (uc r) 0 w').cell (held_belowG h l1) ng, (grown_setCells (w.heap.size + 1) (uc r) 0 w').cell (held_belowG h l2) ng, (grown_setCells (w.heap.size + 1) (uc r) 0 w').cell (held_belowG h l3) ng, (grown_setCells (w.heap.size + 1) (uc r) 0 w').cell (held_belowG h l4) ng, (grown_setCells (w.heap.size + 1) (uc r) 0 w').cell (held_belowG h m0) nb, (grown_setCells (w.heap.size + 1) (uc r) 0 w').cell (held_belowG h m1) nb, (grown_setCells (w.heap.size + 1) (uc r) 0 w').cell (held_belowG h m2) nb, (grown_setCells (w.heap.size + 1) (uc r) 0 w').cell (held_belowG h m3) nb, (grown_setCells (w.heap.size + 1) (uc r) 0 w').cell (held_belowG h m4) nb, (grown_setCells (w.heap.size + 1) (uc r) 0 w').cell (held_belowG h z0) nz, (grown_setCells (w.heap.size + 1) (uc r) 0 w').cell (held_belowG h z1) nz, (grown_setCells (w.heap.size + 1) (uc r) 0 w').cell (held_belowG h z2) nz, (grown_setCells (w.heap.size + 1) (uc r) 0 w').cell (held_belowG h z3) nz, (grown_setCells (w.heap.size + 1) (uc r) 0 w').cell (held_belowG h z4) nz, (grown_setCells (w.heap.size + 1) (uc r) 0 w').cell (held_belowG h f3) nf⟩)
  go_region_held3 (fun w' => w'.cell? ⟨gl, goff + q * 5, none⟩ = some (.int .i64 x.a) ∧ w'.cell? ⟨gl, goff + q * 5 + 1, none⟩ = some (.int .i64 x.b) ∧ w'.cell? ⟨gl, goff + q * 5 + 2, none⟩ = some (.int .i64 x.c) ∧ w'.cell? ⟨gl, goff + q * 5 + 3, none⟩ = some (.int .i64 x.d) ∧ w'.cell? ⟨gl, goff + q * 5 + 4, none⟩ = some (.int .i64 x.n) ∧ w'.cell? ⟨bl, off + k * 5, none⟩ = some (.int .i64 y.a) ∧ w'.cell? ⟨bl, off + k * 5 + 1, none⟩ = some (.int .i64 y.b) ∧ w'.cell? ⟨bl, off + k * 5 + 2, none⟩ = some (.int .i64 y.c) ∧ w'.cell? ⟨bl, off + k * 5 + 3, none⟩ = some (.int .i64 y.d) ∧ w'.cell? ⟨bl, off + k * 5 + 4, none⟩ = some (.int .i64 y.n) ∧ w'.cell? ⟨B2, 0, none⟩ = some (.int .i64 z'.a) ∧ w'.cell? ⟨B2, 1, none⟩ = some (.int .i64 z'.b) ∧ w'.cell? ⟨B2, 2, none⟩ = some (.int .i64 z'.c) ∧ w'.cell? ⟨B2, 3, none⟩ = some (.int .i64 z'.d) ∧ w'.cell? ⟨B2, 4, none⟩ = some (.int .i64 z'.n) ∧ w'.cell? ⟨w.heap.size, 3, none⟩ = some (.slice (some ⟨bl, off, none⟩) L.length cap))
    (first
      | (with_reducible exact K5.out _ B5)
      | (with_reducible exact K6.out _ B5)
      | (with_reducible exact K5.out _ (Below.refl _ _))
      | go_keep)
    (first
      | ((with_reducible refine (c4 _).mono ?_); rintro e w5 ⟨rfl, hw5⟩; have B5 := bel1 (belDG hw5); obtain ⟨⟨r0, r1, r2, r3, r4⟩, rf, rl⟩ := one_box (R3.out.later B5)))
  all_goals
    have b5 := b3.trans (B5.mono hX)
    go_wp2
    refine bodyPost_ret (v := .tuple #[.agg #[.int .i64 r.a, .int .i64 r.b, .int .i64 r.c, .int .i64 r.d, .int .i64 r.n], .int .i64 0]) ?_ rfl ⟨rfl, ?_⟩
    · simp [results, Tryz.results33, go_sem, r0, r1, r2, r3, r4, rl]
    · repeat (first | (with_reducible exact Below.refl _ _) | (with_reducible refine Below.setCell ?_ ?_ _) | (with_reducible refine Below.drew ?_) | (with_reducible refine Below.alloc ?_ ?_ _) | (with_reducible refine Below.trans ?_ (Below.mono b5 ?_)) | (with_reducible exact b5.size) | omega | (simp <;> omega) | (simp <;> (have s := b5.size; omega)) | (have s0 := b5.size; (try simp at s0); (try simp); omega))
end Go.Proofs.YtkgihmhehkaocaaGreat

/- A field that is transformed, as the program makes it: all links.
Conditions: those written at each theorem. -/
namespace Go.Proofs.YtkgihmhehkaocaaGreat
set_option linter.unusedVariables false
set_option linter.unusedSimpArgs false
set_option maxRecDepth 1000000
open Go.RowKit
open Um Tm

theorem gaR_Gg {a b c : Int} {L G : List Q} (h : gaR a b c L G 0) : Gg L G := ⟨(gaR_ok h).2.1, (gaR_ok h).2.2⟩
theorem gaR_Fl {a b c : Int} {L G : List Q} (h : gaR a b c L G 0) : Fl a b c L := ⟨(fldR_ok (gaR_ok h).1).1, (fldR_ok (gaR_ok h).1).2.1, (fldR_ok (gaR_ok h).1).2.2⟩
/-- what Transform answers -/
def RetGF (a b c : Int) (T : List Q) (n B : Nat) (e : Ending) (w' : World) : Prop :=
  (Lim T ∧ ∃ g k : Nat, e = .returned (.tuple #[.agg #[.int .i64 a, .int .i64 b, .int .i64 c, .slice (some ⟨g, 0, none⟩) n k], .int .i64 0]) ∧ LBox w' g T ∧ B ≤ g) ∨ (¬ Lim T ∧ e = .returned (.tuple #[.agg #[.int .i64 0, .int .i64 0, .int .i64 0, .slice none 0 0], .int .i64 3]))
set_option maxHeartbeats 3200000 in
theorem gaT_bad (a b c r : Int) (ao go : Option Addr) (cap gc : Nat) (L G : List Q) (w : World) (h : LiesO w ao L) (hg : LiesO w go G) (hr : gaR a b c L G r) (h0 : r ≠ 0) (hlen : L.length ≤ 1000000) (hlen2 : G.length ≤ 1000000) : Calls Tryz.prog 14 #[.agg #[.int .i64 a, .int .i64 b, .int .i64 c, .slice ao L.length cap], .slice go G.length gc] w fun e w' => e = .returned (.tuple #[.agg #[.int .i64 0, .int .i64 0, .int .i64 0, .slice none 0 0], .int .i64 r]) ∧ Below w.heap.size w w' := by
  have c1 := fun (W : World) (h : LiesO W ao L) (hg : LiesO W go G) => gaV_any a b c r ao go cap gc L G W h hg hr hlen hlen2
  have h0' : (r != 0) = true := by simpa using h0
  have H := Lib.hid h
  have HG := Lib.hid hg
  clear h hg hr h0
  go_enter Tryz.func14, Tryz.ntmps14
  go_wp2_with (fail)
  refine (c1 _ (H.out.later (by repeat (first | (with_reducible exact Below.refl _ _) | (with_reducible refine Below.setCell ?_ ?_ _) | (with_reducible refine Below.drew ?_) | (with_reducible refine Below.alloc ?_ ?_ _) | omega | (simp <;> omega)))) (HG.out.later (by repeat (first | (with_reducible exact Below.refl _ _) | (with_reducible refine Below.setCell ?_ ?_ _) | (with_reducible refine Below.drew ?_) | (with_reducible refine Below.alloc ?_ ?_ _) | omega | (simp <;> omega))))).mono ?_
  rintro e w1 ⟨rfl, hw1⟩
  have hc := Tail.cells hw1
  have zw10 := Nat.lt_of_lt_of_le (n := w.heap.size) (by simp <;> omega) hw1.size; have zw11 := Nat.lt_of_lt_of_le (n := w.heap.size + 1) (by simp <;> omega) hw1.size
  go_wp2
  refine bodyPost_ret (v := .tuple #[.agg #[.int .i64 0, .int .i64 0, .int .i64 0, .slice none 0 0], .int .i64 r]) ?_ rfl ⟨rfl, ?_⟩
  · simp [results, Tryz.results14, go_sem, hc, zw10, zw11]
  · repeat (first | (with_reducible exact Below.refl _ _) | (with_reducible refine Below.setCell ?_ ?_ _) | (with_reducible refine Below.drew ?_) | (with_reducible refine Below.alloc ?_ ?_ _) | (with_reducible refine Below.trans ?_ (Below.mono hw1 ?_)) | (with_reducible exact hw1.size) | omega | (simp <;> omega) | (simp <;> (have s := hw1.size; omega)) | (have s0 := hw1.size; (try simp at s0); (try simp); omega))
set_option maxHeartbeats 6400000 in
theorem gaT_ok (a b c : Int) (bl off gl goff cap gc : Nat) (L G : List Q) (w : World) (h : Lies w bl off L) (hg : Lies w gl goff G) (hr : gaR a b c L G 0) : Calls Tryz.prog 14 #[.agg #[.int .i64 a, .int .i64 b, .int .i64 c, .slice (some ⟨bl, off, none⟩) L.length cap], .slice (some ⟨gl, goff, none⟩) G.length gc] w fun e w' => RetGF a b c (tfL a b c L G) L.length w.heap.size e w' ∧ Below w.heap.size w w' := by
  have hG := gaR_Gg hr
  have hF := gaR_Fl hr
  have hz := hF.z
  have hln := hF.n
  have hp16 := hz.p
  obtain ⟨-, -, p3, -⟩ := mul_rng hz.a1 hz.a4 hz.b1 hz.b4 hz.c1 hz.c4
  have hpos : 0 < L.length := by omega
  have hl48 : L.length ≤ 48 := by omega
  have hgn := hG.n
  have c1 := fun (W : World) (h : LiesO W (some ⟨bl, off, none⟩) L) (hg : LiesO W (some ⟨gl, goff, none⟩) G) => gaV_any a b c 0 (some ⟨bl, off, none⟩) (some ⟨gl, goff, none⟩) cap gc L G W h hg hr (by omega) (by omega)
  have c2 : ∀ (k : Nat) (hk : k < L.length) (W : World), Lies W bl off L → Lies W gl goff G → Calls Tryz.prog 33 #[.agg #[.int .i64 a, .int .i64 b, .int .i64 c, .slice (some ⟨bl, off, none⟩) L.length cap], .slice (some ⟨gl, goff, none⟩) G.length gc, .int .i64 k] W fun e w' => e = .returned (.tuple #[.agg #[.int .i64 (tfK a b c L G k).a, .int .i64 (tfK a b c L G k).b, .int .i64 (tfK a b c L G k).c, .int .i64 (tfK a b c L G k).d, .int .i64 (tfK a b c L G k).n], .int .i64 0]) ∧ Below W.heap.size W w' := fun k hk W h1 h2 => trd_any a b c bl off cap gl goff gc k L G W h1 h2 hF hG hk
  have c3 := fun (B cc : Nat) (W : World) (h : Lies W B 0 (tfL a b c L G)) => limited_any B 0 cc (tfL a b c L G) W h (by rw [tfL_len]; omega)
  rw [tfL_len] at c3
  have ht : ∀ (k : Nat) (hk : k < L.length), ((tfL a b c L G).take (k + 1)).flatMap uc = ((tfL a b c L G).take k).flatMap uc ++ uc (tfK a b c L G k) := fun k hk => by
    rw [uc_take (by rw [tfL_len]; exact hk)]
    have := tfL_get (a := a) (b := b) (c := c) (G := G) hk
    rw [(List.getElem?_eq_some_iff.1 this).2]
  obtain ⟨i0, hi, hz0, hz1, hz2⟩ := info_parts infoU
  have H := Lib.hid h
  have HG := Lib.hid hg
  have HC := Lib.hid c2
  have HT := Lib.hid ht
  have hl2 : L.length ≤ maxLen := by unfold maxLen; omega
  have hl3 : i0.bytes * L.length ≤ 281474976710656 := by rw [hz2]; omega
  have H0 := Lib.hid (show ((tfL a b c L G).take 0).flatMap uc = [] by rw [List.take_zero]; rfl)
  have HF := Lib.hid (show (tfL a b c L G).take L.length = tfL a b c L G from List.take_of_length_le (by rw [tfL_len]; omega))
  have HM := Lib.hid (show L.length = (tfL a b c L G).length by rw [tfL_len])
  have HP := Lib.hid hpos
  clear h hg hr hG hF hz hln hp16 p3 hgn c2 ht hpos
  generalize hT : tfL a b c L G = T at *
  clear hT
  go_enter Tryz.func14, Tryz.ntmps14
  have f0 : FW ((w.alloc (.cells #[.int .i64 a, .int .i64 b, .int .i64 c, .slice (some ⟨bl, off, none⟩) L.length cap] 25)).alloc (.cells #[.int .i64 0, .int .i64 0, .int .i64 0, .slice none 0 0] 25)) w.heap.size a b c (.slice (some ⟨bl, off, none⟩) L.length cap) := FW.n2a
  have r0 : FW ((w.alloc (.cells #[.int .i64 a, .int .i64 b, .int .i64 c, .slice (some ⟨bl, off, none⟩) L.length cap] 25)).alloc (.cells #[.int .i64 0, .int .i64 0, .int .i64 0, .slice none 0 0] 25)) (w.heap.size + 1) 0 0 0 (.slice none 0 0) := FW.n2b
  have F0 := Lib.hid f0
  have R0 := Lib.hid r0
  clear f0 r0
  go_wp2_with (fail)
  refine (c1 _ (.inr ⟨bl, off, rfl, H.out.later ba2⟩) (.inr ⟨gl, goff, rfl, HG.out.later ba2⟩)).mono ?_
  rintro e w1 ⟨rfl, hw1⟩
  have b1 : Below w.heap.size w w1 := bel2 hw1
  have F1 := Lib.hid (F0.out.later hw1)
  have R1 := Lib.hid (R0.out.later hw1)
  have rl1 := R1.out.lt
  clear c1 hw1 F0 R0
  obtain ⟨f0, f1, f2, f3, ff, fl⟩ := F1.out
  go_wp2_with (at_make; refine wpList_make_own _ rfl _ _ 23 rfl w1.heap.size 55 i0 _ 5 Tryz.underlying23 hi hz0 hz1 _ _ _ L.length rfl rfl rfl hl3 hl2 (Nat.le_refl _) ?_; intro w2 hown hgrow; have b2 : Below w1.heap.size w1 w2 := (Below.refl _ _).grown hgrow (by omega) (by simp); have F2 := Lib.hid (F1.out.later b2); have R2 := Lib.hid (R1.out.later b2); obtain ⟨f0, f1, f2, f3, ff, fl⟩ := F2.out)
  have s2 : w1.heap.size + 1 ≤ w2.heap.size := by
    have := (hown.lt w1.heap.size rfl).2
    omega
  have b3 : Below w.heap.size w w2 := b1.trans (b2.mono b1.size)
  have s1 := b1.size
  clear hgrow b1 b2 F1 R1 f0 f1 f2 f3 ff fl
  generalize w1.heap.size = B at *
  go_loopw [7, 8, 9, 10, 26] (fun f _ _ _ q wr => ∃ k : Nat, k ≤ L.length ∧ q = .int .i64 k ∧ f = .slice (some ⟨B, 0, none⟩) k L.length ∧ Hid (wr.ownsRow B 55 5 (.slice (some ⟨B, 0, none⟩) k L.length) k ((T.take k).flatMap uc)) ∧ Hid (FW wr w.heap.size a b c (.slice (some ⟨bl, off, none⟩) L.length cap)) ∧ Hid (FW wr (w.heap.size + 1) 0 0 0 (.slice none 0 0)) ∧ Below w.heap.size w wr ∧ B + 1 ≤ wr.heap.size) (fun _ _ _ _ q _ => L.length - (intOf q).toNat)
  case atStart => exact ⟨0, by omega, rfl, rfl, Lib.hid (by rw [H0.out]; exact hown), F2, R2, b3, s2⟩
  case round =>
    obtain ⟨k, hk, rfl, rfl, hown, hf, hres, hb, hgs⟩ := hrel
    clear F2 R2 b3 s2
    have hbs := hb.size
    by_cases hlt : k < L.length
    · have d0 := HC.out k hlt
      have q1 := HT.out k hlt
      generalize tfK a b c L G k = y at *
      have Q1 := Lib.hid q1
      clear q1
      obtain ⟨f0, f1, f2, f3, ff, fl⟩ := hf.out
      go_wp2_with (fail)
      refine (d0 _ (H.out.later hb) (HG.out.later hb)).mono ?_
      rintro e w4 ⟨rfl, hw4⟩
      have b4 : Below w.heap.size w w4 := hb.trans (hw4.mono hbs)
      have HO4 := Lib.hid (owned_later hown.out hw4)
      have F4 := Lib.hid (hf.out.later hw4)
      have R4 := Lib.hid (hres.out.later hw4)
      have s6 := hw4.size
      clear d0 hw4 hown hf hres f0 f1 f2 f3 ff fl
      go_wp2_with (at_builtin; refine wpList_append_fits _ rfl (.tmp 40) (.tmp 42) 23 rfl B 55 i0 5 Tryz.underlying23 hi hz1 B k L.length ((T.take k).flatMap uc) rfl ((HO4.out.alloc _).alloc _) ⟨w4.heap.size + 1, 0, none⟩ 1 1 (uc y) rfl rfl (five_cells rfl (by simp [go_sem]) (by simp [go_sem]) (by simp [go_sem]) (by simp [go_sem]) (by simp [go_sem])) (five_one rfl) (by omega) ?_; intro w5 hown5 hgrow5)
      have b4s := b4.size
      have hb5 : Below w.heap.size w w5 := Below.grown (b4.trans (ba2.mono b4s)) hgrow5 (by simp; omega) (fun j hj => by simp at hj; omega)
      have ho : w5.ownsRow B 55 5 (.slice (some ⟨B, 0, none⟩) (k + 1) L.length) (k + 1) ((T.take (k + 1)).flatMap uc) := by rw [Q1.out]; exact hown5
      have s7 := hgrow5.size
      simp at s7
      have nB : some w.heap.size ≠ some B := fun e => by have := Option.some.inj e; omega
      have nB1 : some (w.heap.size + 1) ≠ some B := fun e => by have := Option.some.inj e; omega
      have F5 := Lib.hid ((F4.out.later ba2).grown hgrow5 nB)
      have R5 := Lib.hid ((R4.out.later ba2).grown hgrow5 nB1)
      clear hown5 hgrow5 F4 R4
      go_wp2
      exact ⟨⟨k + 1, by omega, by go_num, rfl, Lib.hid ho, F5, R5, hb5, by omega⟩, by simp [intOf]; omega⟩
    · obtain rfl : k = L.length := by omega
      have ho := hown.out
      rw [HF.out] at ho
      obtain ⟨LB, hgb⟩ := owned_LBox HM.out ho
      have HL := Lib.hid LB
      have gb : w.heap.size + 1 < B := by omega
      clear hown ho LB
      go_wp2_with (fail)
      refine (c3 B _ _ HL.out.h).mono ?_
      rintro e w5 ⟨(⟨hlim, rfl⟩ | ⟨hlim, rfl⟩), hw5⟩
      · obtain ⟨f0, f1, f2, f3, ff, fl⟩ := hf.out.later hw5
        obtain ⟨r0, r1, r2, r3, rf, rl⟩ := hres.out.later hw5
        have HLim := Lib.hid hlim
        have L5 := Lib.hid (HL.out.later hw5)
        have b5 := hb.trans (hw5.mono hbs)
        have gX := grown4 (w := w5) (w.heap.size + 1) (.int .i64 a) (.int .i64 b) (.int .i64 c) (.slice (some ⟨B, 0, none⟩) L.length L.length)
        have bX := b5.grown gX b5.size (fun j e => by cases e; omega)
        have LX := Lib.hid (L5.out.grown gX (fun e => by have := Option.some.inj e; omega))
        have HBX := Lib.hid bX
        clear hlim gX bX hw5 b5
        go_wp2
        refine bodyPost_ret (v := .tuple #[.agg #[.int .i64 a, .int .i64 b, .int .i64 c, .slice (some ⟨B, 0, none⟩) L.length L.length], .int .i64 0]) ?_ rfl ⟨.inl ⟨HLim.out, B, L.length, rfl, LX.out, by omega⟩, HBX.out⟩
        simp [results, Tryz.results14, go_sem, r0, r1, r2, r3]
      · obtain ⟨r0, r1, r2, r3, rf, rl⟩ := hres.out.later hw5
        have HLim := Lib.hid hlim
        have HB5 := Lib.hid (hb.trans (hw5.mono hbs))
        clear hlim hw5
        go_wp2
        refine bodyPost_ret (v := .tuple #[.agg #[.int .i64 0, .int .i64 0, .int .i64 0, .slice none 0 0], .int .i64 3]) ?_ rfl ⟨.inr ⟨HLim.out, rfl⟩, ?_⟩
        · simp [results, Tryz.results14, go_sem, r0, r1, r2, r3]
        · have b5 := HB5.out
          repeat (first | (with_reducible exact Below.refl _ _) | (with_reducible refine Below.setCell ?_ ?_ _) | (with_reducible refine Below.drew ?_) | (with_reducible refine Below.alloc ?_ ?_ _) | (with_reducible refine Below.trans ?_ (Below.mono b5 ?_)) | (with_reducible exact b5.size) | omega | (simp <;> omega) | (simp <;> (have s := b5.size; omega)) | (have s0 := b5.size; (try simp at s0); (try simp); omega))
end Go.Proofs.YtkgihmhehkaocaaGreat

/- A field that is transformed, as the document's answers make it.
Conditions: those written at each theorem. -/
namespace Go.Proofs.YtkgihmhehkaocaaGreat
set_option linter.unusedVariables false
set_option linter.unusedSimpArgs false
set_option maxRecDepth 1000000
open Go.RowKit
open Um Tm

/-- what lies between two links that are appended -/
structure RG (w : World) (p : Nat) (F : Value) (a b c : Int) (T : List Q) (W : World) (v : Value) (m : Nat) : Prop where
  own : W.ownsRow (p + 1) 55 5 v m ((T.take m).flatMap uc)
  s : FW W p a b c v
  f : FW W w.heap.size a b c F
  r : FW W (w.heap.size + 1) 0 0 0 (.slice none 0 0)
  b : Below w.heap.size w W
theorem RG.later {w : World} {p : Nat} {F : Value} {a b c : Int} {T : List Q} {W X : World} {v : Value} {m : Nat} (h : RG w p F a b c T W v m) (hb : Below W.heap.size W X) : RG w p F a b c T X v m :=
  ⟨owned_later h.own hb, h.s.later hb, h.f.later hb, h.r.later hb, h.b.trans (hb.mono h.b.size)⟩
theorem RG.app {w : World} {p : Nat} {F : Value} {a b c : Int} {T : List Q} {W X Y : World} {v v' : Value} {m : Nat} {y : Q} (h : RG w p F a b c T W v m) (hp : w.heap.size + 1 < p) (hb : Below W.heap.size W X) (hg : X.grownBy Y v.ownBlock) (ho : Y.ownsRow (p + 1) 55 5 v' (m + 1) ((T.take m).flatMap uc ++ uc y)) (hy : T[m]? = some y) : RG w p F a b c T (Y.setCell ⟨p, 3, none⟩ v') v' (m + 1) := by
  have hX := h.later hb
  have hfr := owned_from hX.own
  have k5 := grown_setCell Y ⟨p, 3, none⟩ v'
  have hm := (List.getElem?_eq_some_iff.1 hy).1
  have e : (T.take (m + 1)).flatMap uc = (T.take m).flatMap uc ++ uc y := by
    rw [List.take_succ_eq_append_getElem hm, List.flatMap_append, (List.getElem?_eq_some_iff.1 hy).2]
    simp
  refine ⟨?_, (hX.s.grown hg (owned_ne hX.own (by omega))).set3 v', (hX.f.grown hg (owned_ne hX.own (by omega))).grown k5 (by simp; omega), (hX.r.grown hg (owned_ne hX.own (by omega))).grown k5 (by simp; omega), (hX.b.grown hg hX.b.size (fun j hj => by have := hfr j hj; omega)).setCell (p := ⟨p, 3, none⟩) (by show w.heap.size ≤ p; omega) v'⟩
  rw [e]
  exact ho.kept k5 (.inr (fun e => by have := owned_from ho p e; omega))
theorem mul_bnd5 {x y : Q} (hx : V x ∧ x.n ≤ 5) (hy : V y ∧ y.n ≤ 5) : U (mul x y) ∧ (mul x y).n ≤ 25 := by
  refine ⟨mul_len x y hx.1.u hy.1.u, ?_⟩
  have h1 := hx.1.u.pos
  have h2 := hy.1.u.pos
  show x.n * y.n ≤ 25
  exact Int.le_trans (Int.mul_le_mul hx.2 hy.2 (by omega) (by omega)) (by decide)
theorem mul_bnd25 {x y : Q} (hx : U x ∧ x.n ≤ 25) (hy : V y ∧ y.n ≤ 5) : U (mul x y) ∧ (mul x y).n ≤ 125 := by
  refine ⟨mul_len x y hx.1 hy.1.u, ?_⟩
  have h1 := hx.1.pos
  have h2 := hy.1.u.pos
  show x.n * y.n ≤ 125
  exact Int.le_trans (Int.mul_le_mul hx.2 hy.2 (by omega) (by omega)) (by decide)
theorem owned5_form {w : World} {base : Nat} {T : TypeId} {v : Value} {n : Nat} {xs : List Value} (h : w.ownsRow base T 5 v n xs) : ∃ ao cap, v = .slice ao n cap := by
  by_cases hn : 0 < n
  · obtain ⟨g, cap, rfl, -⟩ := owned5_some h hn
    exact ⟨_, _, rfl⟩
  · rcases h.2 with ⟨h', h0⟩ | ⟨g', cap', cur, h', hb, hg, _⟩
    · exact ⟨none, 0, by rw [h', h0]⟩
    · exact ⟨_, _, h'⟩
set_option maxHeartbeats 6400000 in
theorem refTf_ok (a b c : Int) (bl off gl goff cap gc : Nat) (L G : List Q) (w : World) (h : Lies w bl off L) (hg : Lies w gl goff G) (hF : Fl a b c L) (hG : Gg L G) : Calls Tryz.prog 52 #[.agg #[.int .i64 a, .int .i64 b, .int .i64 c, .slice (some ⟨bl, off, none⟩) L.length cap], .slice (some ⟨gl, goff, none⟩) G.length gc] w fun e w' => (∃ g k : Nat, e = .returned (.agg #[.int .i64 a, .int .i64 b, .int .i64 c, .slice (some ⟨g, 0, none⟩) L.length k]) ∧ LBox w' g (tfL a b c L G) ∧ w.heap.size ≤ g) ∧ Below w.heap.size w w' := by
  have hz := hF.z
  have hln := hF.n
  have hp16 := hz.p
  obtain ⟨-, -, p3, -⟩ := mul_rng hz.a1 hz.a4 hz.b1 hz.b4 hz.c1 hz.c4
  have hpos : 0 < L.length := by omega
  have hl48 : L.length ≤ 48 := by omega
  have hgn := hG.n
  have cK : ∀ (k : Nat) (hk : k < L.length), ∃ (q m t : Nat) (x y z z' p1 p2 r : Q), k / 3 = q ∧ k % 3 = m ∧ q < G.length ∧ t < G.length ∧ G[q]? = some x ∧ L[k]? = some y ∧ G[t]? = some z ∧ tfK a b c L G k = r ∧
      (∀ W : World, Calls Tryz.prog 87 #[.agg #[.int .i64 a, .int .i64 b, .int .i64 c], .int .i64 q, .int .i64 m] W fun e w' => e = .returned (.int .i64 t) ∧ Below W.heap.size W w') ∧
      (∀ W : World, Calls Tryz.prog 50 #[.agg #[.int .i64 x.a, .int .i64 x.b, .int .i64 x.c, .int .i64 x.d, .int .i64 x.n], .agg #[.int .i64 y.a, .int .i64 y.b, .int .i64 y.c, .int .i64 y.d, .int .i64 y.n]] W fun e w' => e = .returned (.agg #[.int .i64 p1.a, .int .i64 p1.b, .int .i64 p1.c, .int .i64 p1.d, .int .i64 p1.n]) ∧ Below W.heap.size W w') ∧
      (∀ W : World, Calls Tryz.prog 86 #[.agg #[.int .i64 z.a, .int .i64 z.b, .int .i64 z.c, .int .i64 z.d, .int .i64 z.n]] W fun e w' => e = .returned (.agg #[.int .i64 z'.a, .int .i64 z'.b, .int .i64 z'.c, .int .i64 z'.d, .int .i64 z'.n]) ∧ Below W.heap.size W w') ∧
      (∀ W : World, Calls Tryz.prog 50 #[.agg #[.int .i64 p1.a, .int .i64 p1.b, .int .i64 p1.c, .int .i64 p1.d, .int .i64 p1.n], .agg #[.int .i64 z'.a, .int .i64 z'.b, .int .i64 z'.c, .int .i64 z'.d, .int .i64 z'.n]] W fun e w' => e = .returned (.agg #[.int .i64 p2.a, .int .i64 p2.b, .int .i64 p2.c, .int .i64 p2.d, .int .i64 p2.n]) ∧ Below W.heap.size W w') ∧
      (∀ W : World, Calls Tryz.prog 85 #[.agg #[.int .i64 p2.a, .int .i64 p2.b, .int .i64 p2.c, .int .i64 p2.d, .int .i64 p2.n]] W fun e w' => e = .returned (.agg #[.int .i64 r.a, .int .i64 r.b, .int .i64 r.c, .int .i64 r.d, .int .i64 r.n]) ∧ Below W.heap.size W w') := fun k hk => by
    obtain ⟨t0, t1⟩ := ahd_rng hz k
    obtain ⟨t, ht⟩ : ∃ t : Nat, ahd a b c k = (t : Int) := ⟨(ahd a b c k).toNat, by omega⟩
    have hx := lk_at (L := G) (i := k / 3) (by omega)
    have hy := lk_at (L := L) (i := k) hk
    have hzz := lk_at (L := G) (i := t) (by omega)
    have vx := hG.v _ _ hx
    have vz := hG.v _ _ hzz
    have vy := hF.v _ _ hy
    have v1 := mul_bnd5 vx vy
    have v2 := mul_bnd25 v1 ⟨vz.1.bar, vz.2⟩
    refine ⟨k / 3, k % 3, t, _, _, _, _, _, _, _, rfl, rfl, by omega, by omega, hx, hy, hzz, by rw [tfK, ht], fun W => ?_, fun W => raw4_any _ _ W (small2_U vx.1.u vy.1.u (by omega) (by omega)), fun W => refBar_any _ W vz.1 vz.2, fun W => raw4_any _ _ W (small2_U v1.1 vz.1.bar.u (by omega) (by have := vz.2; show (lk G (t : Int)).n ≤ 1048576; omega)), fun W => lowest4_any _ W (U_in v2.1 (by omega))⟩
    have := ahead_any a b c ((k / 3 : Nat) : Int) ((k % 3 : Nat) : Int) W hz (by omega) (by omega) (by omega) (by omega)
    rw [← ht]
    exact this
  have hget : ∀ (k : Nat) (hk : k < L.length), (tfL a b c L G)[k]? = some (tfK a b c L G k) := fun k hk => tfL_get hk
  obtain ⟨i0, hi, hz0, hz1, hz2⟩ := info_parts infoU
  have H := Lib.hid h
  have HG := Lib.hid hg
  have HC := Lib.hid cK
  have HT := Lib.hid hget
  have hF' := Lib.hid (show (tfL a b c L G).take L.length = tfL a b c L G from List.take_of_length_le (by rw [tfL_len]; omega))
  have HM := Lib.hid (show L.length = (tfL a b c L G).length by rw [tfL_len])
  have HP := Lib.hid hpos
  clear h hg hG hF hz hln hp16 p3 hgn hget cK hpos
  generalize hT : tfL a b c L G = T at *
  clear hT
  go_enter Tryz.func52, Tryz.ntmps52
  have R0 : RG w (w.heap.size + 1 + 1) (.slice (some ⟨bl, off, none⟩) L.length cap) a b c T (((w.alloc (.cells #[.int .i64 a, .int .i64 b, .int .i64 c, .slice (some ⟨bl, off, none⟩) L.length cap] 25)).alloc (.cells #[.int .i64 0, .int .i64 0, .int .i64 0, .slice none 0 0] 25)).alloc (.cells #[.int .i64 a, .int .i64 b, .int .i64 c, .slice none 0 0] 25)) (.slice none 0 0) 0 := ⟨World.ownsRow_nil _ _ _ _, FW.n3c, FW.n3a, FW.n3b, ba3⟩
  have HR0 := Lib.hid R0
  clear R0
  go_wp2
  have hpw : w.heap.size + 1 < w.heap.size + 1 + 1 := by omega
  generalize hpp : w.heap.size + 1 + 1 = p at *
  clear hpp
  go_loopw [6] (fun q wr => ∃ (k : Nat) (v : Value), k ≤ L.length ∧ q = .int .i64 k ∧ Hid (RG w p (.slice (some ⟨bl, off, none⟩) L.length cap) a b c T wr v k)) (fun q _ => L.length - (intOf q).toNat)
  case atStart => exact ⟨0, _, by omega, rfl, HR0⟩
  case round =>
    obtain ⟨k, v0, hk, rfl, HR⟩ := hrel
    clear HR0
    have hRs := HR.out.f
    obtain ⟨ao, cp, rfl⟩ := owned5_form HR.out.own
    obtain ⟨f0, f1, f2, f3, ff, fl⟩ := HR.out.f
    obtain ⟨d0, d1, d2, d3, df, dl⟩ := HR.out.s
    clear hRs
    by_cases hlt : k < L.length
    · obtain ⟨q, m, t, x, y, z, z', p1, p2, r, hq, hm, hqG, htG, hx, hy, hzz, hr, cA, cR1, cB, cR2, cL⟩ := HC.out k hlt
      have HY := Lib.hid (hr ▸ HT.out k hlt)
      have hb := HR.out.b
      obtain ⟨l0, l1, l2, l3, l4⟩ := (H.out.later hb) _ _ hy
      obtain ⟨m0, m1, m2, m3, m4⟩ := (HG.out.later hb) _ _ hx
      obtain ⟨n0, n1, n2, n3, n4⟩ := (HG.out.later hb) _ _ hzz
      have lb1 : bl < wr.heap.size := World.block_lt_of_cell? _ _ l0
      have lb2 : gl < wr.heap.size := World.block_lt_of_cell? _ _ m0
      have e1 : IntKind.i64.wrap ((k : Int) / 3) = (q : Int) := by
        rw [show (k : Int) / 3 = (q : Int) by omega]
        exact IntWalk.i64_in _ (by omega)
      have e2 : (k : Int).tmod 3 = (m : Int) := by rw [Int.tmod_eq_emod_of_nonneg (by omega)]; omega
      have iq : (q : Int) < (G.length : Int) := by omega
      have it : (t : Int) < (G.length : Int) := by omega
      have ik : (k : Int) < (L.length : Int) := by omega
      clear hx hy hzz hr hq hm hb
      go_wp2
      apply Made.region_one 26 (.cells (uc r).toArray 55) (fun g => .slice (some ⟨g, 0, none⟩) 1 1) (some 43) (by kernel_rfl) (by kernel_rfl) (by kernel_rfl)
      · intro B hB
        have kc := @Tail.cell_re
        have hcB := Tail.cells hB
        have zB0 := Nat.lt_of_lt_of_le fl hB.size
        have zB1 := Nat.lt_of_lt_of_le dl hB.size
        have zB2 := Nat.lt_of_lt_of_le lb1 hB.size
        have zB3 := Nat.lt_of_lt_of_le lb2 hB.size
        simp only [List.take_succ_cons, List.take_zero]
        repeat (go_big_quiet_step (first | (with_reducible exact Calls.regrown_of (cA _)) | (with_reducible exact Calls.regrown_of (cR1 _)) | (with_reducible exact Calls.regrown_of (cB _)) | (with_reducible exact Calls.regrown_of (cR2 _)) | (with_reducible exact Calls.regrown_of (cL _))))
        exact wpQuiet_nil rfl
      · refine ⟨_, rfl, rfl, fun W => ⟨rfl, ?_⟩⟩
        simp [execOp, go_sem, uc]
      intro g4 w4 hg4 hw4 hx4
      show wpList _ _ _ (List.drop 27 _) _ _
      simp only [List.drop_succ_cons, List.drop_zero]
      have x0 := Wide.cell_at hx4 0 _ rfl
      have x1 := Wide.cell_at hx4 1 _ rfl
      have x2 := Wide.cell_at hx4 2 _ rfl
      have x3 := Wide.cell_at hx4 3 _ rfl
      have x4 := Wide.cell_at hx4 4 _ rfl
      have OO := Lib.hid (owned_later HR.out.own hw4)
      have hs4 := hw4.size
      have FF4 := Lib.hid (HR.out.s.later hw4)
      have hpX := HR.out.s.lt
      clear f0 f1 f2 f3 ff fl d0 d1 d2 d3 df dl l0 l1 l2 l3 l4 m0 m1 m2 m3 m4 n0 n1 n2 n3 n4 lb1 lb2 hx4 cA cR1 cB cR2 cL
      obtain ⟨CS, hCS⟩ : ∃ CS, CS = (T.take k).flatMap uc := ⟨_, rfl⟩
      rw [← hCS] at OO
      have HCS := Lib.hid hCS
      clear hCS
      go_wp2_with (at_builtin; refine wpList_append_own _ rfl (.tmp 18) (.tmp 43) 23 rfl (p + 1) 55 i0 _ 5 40 Tryz.underlying23 hi hz0 hz1 hz2 rfl (by decide) (.slice ao k cp) k CS rfl OO.out ⟨g4, 0, none⟩ 1 1 (uc r) rfl rfl (five_cells rfl x0 x1 x2 x3 x4) (five_one rfl) (by unfold maxLen; omega) (by omega) (by omega) ?_; intro v5 w5 hown5 hgrow5 _; obtain ⟨g5, c5, rfl, hg5⟩ := owned5_some hown5 (by omega); obtain ⟨d0, d1, d2, d3, df, dl⟩ := FF4.out.grown hgrow5 (owned_ne OO.out (by omega)))
      rw [HCS.out] at hown5
      have HR1 := Lib.hid (HR.out.app hpw hw4 hgrow5 hown5 HY.out)
      clear hpX hown5 hgrow5 d0 d1 d2 d3 df dl OO FF4 HCS x0 x1 x2 x3 x4 hs4 hw4
      go_wp2
      exact ⟨⟨k + 1, _, by omega, by go_num, HR1⟩, by simp [intOf]; omega⟩
    · obtain rfl : k = L.length := by omega
      have ho := HR.out.own
      rw [hF'.out] at ho
      obtain ⟨g, kc, hgk, hgb⟩ := owned5_some ho HP.out
      simp only [Value.slice.injEq, true_and] at hgk
      obtain ⟨rfl, rfl⟩ := hgk
      obtain ⟨LB, hgb2⟩ := owned_LBox HM.out ho
      have HL := Lib.hid LB
      obtain ⟨r0, r1, r2, r3, rf, rl⟩ := HR.out.r
      have gX := grown4 (w := wr) (w.heap.size + 1) (.int .i64 a) (.int .i64 b) (.int .i64 c) (.slice (some ⟨g, 0, none⟩) L.length cp)
      have bX := HR.out.b.grown gX HR.out.b.size (fun j e => by cases e; omega)
      have LX := Lib.hid (HL.out.grown gX (fun e => by have := Option.some.inj e; omega))
      have HBX := Lib.hid bX
      clear ho LB gX bX
      go_wp2
      refine bodyPost_ret (v := .agg #[.int .i64 a, .int .i64 b, .int .i64 c, .slice (some ⟨g, 0, none⟩) L.length cp]) ?_ rfl ⟨⟨g, cp, rfl, LX.out, by omega⟩, HBX.out⟩
      simp [results, Tryz.results52, go_sem, r0, r1, r2, r3]
end Go.Proofs.YtkgihmhehkaocaaGreat

/- A field that is transformed, or an error, as the document's answers make it.
Conditions: those written at each theorem. -/
namespace Go.Proofs.YtkgihmhehkaocaaGreat
set_option linter.unusedVariables false
set_option linter.unusedSimpArgs false
set_option maxRecDepth 1000000
open Go.RowKit
open Um Tm

end Go.Proofs.YtkgihmhehkaocaaGreat
