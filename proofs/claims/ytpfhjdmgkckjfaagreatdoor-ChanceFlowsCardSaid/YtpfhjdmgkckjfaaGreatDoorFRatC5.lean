/- Ratio: two weights over their greatest common divisor, on both sides.
Conditions: those written at each theorem. -/
import Derived.Test.YtpfhjdmgkckjfaaGreatDoorFFlwC
namespace Go.Proofs.YtpfhjdmgkckjfaaGreatDoor
set_option linter.unusedVariables false
set_option linter.unusedSimpArgs false
set_option maxRecDepth 1000000
open Go.RowKit
open Um Tm Cm

set_option maxHeartbeats 400000 in
theorem divisor5_any (m n : Int) (w : World) (hm : 0 ≤ m ∧ m ≤ 4611686018427387904) (hn : 0 ≤ n ∧ n ≤ 4611686018427387904) :
    Calls Tryz.prog 58 #[.int .i64 m, .int .i64 n] w fun e w' => e = .returned (.int .i64 (gc m n)) ∧ Below w.heap.size w w' := by
  obtain ⟨hm1, hm2⟩ := hm
  obtain ⟨hn1, hn2⟩ := hn
  go_enter Tryz.func58, Tryz.ntmps58
  go_wp2
  go_loopw [0, 1] (fun p q wr => ∃ x y : Int, p = .int .i64 x ∧ q = .int .i64 y ∧ 0 ≤ x ∧ x ≤ 4611686018427387904 ∧ 0 ≤ y ∧ y ≤ 4611686018427387904 ∧ gc x y = gc m n ∧ Below w.heap.size w wr) (fun _ q _ => (intOf q).natAbs)
  case atStart => exact ⟨m, n, rfl, rfl, hm1, hm2, hn1, hn2, rfl, Below.refl _ _⟩
  case round =>
    obtain ⟨x, y, rfl, rfl, hx1, hx2, hy1, hy2, hg, hb⟩ := hrel
    have HG := Lib.hid hg
    clear hg
    by_cases h0 : y = 0
    · subst h0
      go_wp2
      all_goals
        go_ret
        exact ⟨by have := HG.out; rw [gc_zero] at this; rw [← this]; refine congrArg Ending.returned (congrArg (Value.int .i64) ?_); omega, hb⟩
    · have h0' : (y != 0) = true := by simpa using h0
      have h1' : (y == 0) = false := by simpa using h0
      have h1 : 1 ≤ y := by omega
      go_wp2
      go_quiet (fail)
      go_wp2
      have ht := Int.emod_lt_of_pos x (show 0 < y by omega)
      have hp := Int.emod_nonneg x (show y ≠ 0 by omega)
      exact ⟨⟨y, x % y, rfl, rfl, by omega, by omega, by omega, by omega, by rw [gc_step' _ _ hx1]; exact HG.out, ⟨hb.os, hb.tape, hb.output, hb.size, hb.block⟩⟩, by simp [intOf]; omega⟩
set_option maxHeartbeats 1600000 in
/-- the number of a small unit, as the document's answers find it -/
theorem number5_any (k : Nat) (hk : k < 24) (w : World) : Calls Tryz.prog 59 #[.agg #[.int .i64 (small k).a, .int .i64 (small k).b, .int .i64 (small k).c, .int .i64 (small k).d, .int .i64 (small k).n]] w fun e w' => e = .returned (.int .i64 k) ∧ Below w.heap.size w w' := by
  have cU := Lib.hid (fun (v : Nat) (hv : v < 24) (W : World) => unit5_any v W (by omega) (by omega))
  have QT := Lib.hid (fun (j : Nat) (hj : j < k) (W : World) => show Sem.run Tryz.prog (Op.equalIn 10000 73 (.agg #[.int .i64 (small (j : Int)).a, .int .i64 (small (j : Int)).b, .int .i64 (small (j : Int)).c, .int .i64 (small (j : Int)).d, .int .i64 (small (j : Int)).n]) (.agg #[.int .i64 (small (k : Int)).a, .int .i64 (small (k : Int)).b, .int .i64 (small (k : Int)).c, .int .i64 (small (k : Int)).d, .int .i64 (small (k : Int)).n])) W = .ok false W by
    rw [eqU]
    have : ¬ small (j : Int) = small (k : Int) := fun e => by have := small_inj j (by omega) k hk e; omega
    simp [this])
  have QS := Lib.hid (fun (W : World) => show Sem.run Tryz.prog (Op.equalIn 10000 73 (.agg #[.int .i64 (small (k : Int)).a, .int .i64 (small (k : Int)).b, .int .i64 (small (k : Int)).c, .int .i64 (small (k : Int)).d, .int .i64 (small (k : Int)).n]) (.agg #[.int .i64 (small (k : Int)).a, .int .i64 (small (k : Int)).b, .int .i64 (small (k : Int)).c, .int .i64 (small (k : Int)).d, .int .i64 (small (k : Int)).n])) W = .ok true W by rw [eqU]; simp)
  have ur0 : URead (w.alloc (.cells #[.int .i64 (small (k : Int)).a, .int .i64 (small (k : Int)).b, .int .i64 (small (k : Int)).c, .int .i64 (small (k : Int)).d, .int .i64 (small (k : Int)).n] 73)) w.heap.size (small (k : Int)) := ⟨by simp [go_sem], by simp [go_sem], by simp [go_sem], by simp [go_sem], by simp [go_sem], by simp⟩
  have UR := Lib.hid ur0
  have HB := Lib.hid (ba1 (w := w) (o := .cells #[.int .i64 (small (k : Int)).a, .int .i64 (small (k : Int)).b, .int .i64 (small (k : Int)).c, .int .i64 (small (k : Int)).d, .int .i64 (small (k : Int)).n] 73))
  clear ur0
  have kc := @Tail.cell_re
  go_enter Tryz.func59, Tryz.ntmps59
  go_wp2
  go_loopw [3] (fun q wr => ∃ j : Nat, j ≤ k ∧ q = .int .i64 j ∧ Hid (URead wr w.heap.size (small (k : Int))) ∧ Below w.heap.size w wr) (fun q _ => 24 - (intOf q).toNat)
  case atStart => exact ⟨0, by omega, rfl, UR, HB.out⟩
  case round =>
    obtain ⟨j, hj, rfl, ur, hb⟩ := hrel
    clear UR HB
    have i1 : (j : Int) < 24 := by omega
    have c1 := cU.out j (by omega)
    obtain ⟨u0, u1, u2, u3, u4, ul⟩ := ur.out
    by_cases hlt : j < k
    · have q1 := QT.out j hlt
      generalize small (j : Int) = y at *
      generalize small (k : Int) = x at *
      go_wp2_with (fail)
      refine Tail.region_below (by kernel_rfl) (by kernel_rfl) ?_
      repeat (go_big_quiet_step (with_reducible exact Calls.regrown_of (c1 _)))
      refine wpQuiet_nil ?_
      intro w1 hw1
      have ur1 := Lib.hid (ur.out.later hw1)
      clear u0 u1 u2 u3 u4 ul
      go_wp2
      exact ⟨⟨j + 1, by omega, by go_num, ur1, hb.trans (hw1.mono hb.size)⟩, by simp [intOf]; omega⟩
    · obtain rfl : j = k := by omega
      have q1 := QS.out
      generalize small (j : Int) = x at *
      go_wp2_with (fail)
      refine Tail.region_below (by kernel_rfl) (by kernel_rfl) ?_
      repeat (go_big_quiet_step (with_reducible exact Calls.regrown_of (c1 _)))
      refine wpQuiet_nil ?_
      intro w1 hw1
      clear u0 u1 u2 u3 u4 ul
      go_wp2
      go_ret
      exact ⟨rfl, hb.trans (hw1.mono hb.size)⟩
/-! ### the program's table, and two of its weights -/
/-- a table in memory: what its functions have captured -/
structure TbR (a b c l : Int) (L : List Q) (bl off cap : Nat) (ws : List Int) (R : List (Q × Value)) (Bc Bw m k pb po : Nat) (xs : List Value) (w : World) : Prop where
  n : R.length = 24
  rows : Rows w Bc Bw m R
  cb : CB w Bc (.slice (some ⟨bl, off, none⟩) L.length cap) l (.slice (some ⟨pb, po, none⟩) (thr a b c l).length k)
  wb : WB w Bw ws
  li : Lies w bl off L
  pl : PLs a b c w xs (thr a b c l)
  xl : ∀ (i : Nat) (x : Value), xs[i]? = some x → w.cell? ⟨pb, po + i, none⟩ = some x
theorem TbR.later {a b c l : Int} {L : List Q} {bl off cap : Nat} {ws : List Int} {R : List (Q × Value)} {Bc Bw m k pb po : Nat} {xs : List Value} {w w1 : World} (h : TbR a b c l L bl off cap ws R Bc Bw m k pb po xs w) (hb : Below w.heap.size w w1) : TbR a b c l L bl off cap ws R Bc Bw m k pb po xs w1 :=
  ⟨h.n, h.rows.later hb, h.cb.later hb, h.wb.later hb, h.li.later hb, h.pl.later hb, fun i x hx => (hb.cell (World.block_lt_of_cell? w _ (h.xl i x hx))).trans (h.xl i x hx)⟩
theorem table2_any (a b c l : Int) (L : List Q) (bl off cap : Nat) (w0 w1 w2 w3 w4 : Int) (w : World) (hF : SmF a b c L) (h0 : 0 ≤ l) (h1 : l < 3 * (a * b * c)) (hL : Lies w bl off L) (hst : StA w) :
    Calls Tryz.prog 41 #[.agg #[.int .i64 a, .int .i64 b, .int .i64 c, .slice (some ⟨bl, off, none⟩) L.length cap], .agg #[.int .i64 w0, .int .i64 w1, .int .i64 w2, .int .i64 w3, .int .i64 w4], .int .i64 l] w fun e w' => (∃ (R : List (Q × Value)) (Bc Bw m k pb po : Nat) (xs : List Value), e = .returned (.tuple #[.agg (R.flatMap rc).toArray, .int .i64 0]) ∧ TbR a b c l L bl off cap [w0, w1, w2, w3, w4] R Bc Bw m k pb po xs w') ∧ Below w.heap.size w w' := by
  refine (table_any a b c l L bl off cap w0 w1 w2 w3 w4 w hF h0 h1 hL hst).mono ?_
  rintro e w' ⟨⟨R, Bc, Bw, m, k, pb, po, xs, rfl, hR, hRw, hcb, hwb, hP, hX⟩, hw'⟩
  exact ⟨⟨R, Bc, Bw, m, k, pb, po, xs, rfl, hR, hRw, hcb, hwb, hL.later hw', hP, hX⟩, hw'⟩
theorem rc_at (R : List (Q × Value)) (k : Nat) (x : Q × Value) (hx : R[k]? = some x) : (R.flatMap rc)[k * 6 + 5]? = some x.2 := (flat_get rc 6 (fun _ => rfl) R k x hx 5 (by decide)).trans rfl
set_option maxHeartbeats 3200000 in
theorem pair5_any (a b c l : Int) (L : List Q) (R : List (Q × Value)) (Bc Bw m bl off cap k pb po : Nat) (xs : List Value) (w0 w1 w2 w3 w4 : Int) (w : World) (hF : SmF a b c L) (l0 : 0 ≤ l) (l1 : l < 3 * (a * b * c)) (hT : TbR a b c l L bl off cap [w0, w1, w2, w3, w4] R Bc Bw m k pb po xs w) (hw : WOk [w0, w1, w2, w3, w4]) (i j : Nat) (hi : i < 24) (hj : j < 24) :
    Calls Tryz.prog 57 #[.agg (R.flatMap rc).toArray, .int .i64 i, .int .i64 j] w fun e w' => e = .returned (.tuple #[.int .i64 (wprod a b c L [w0, w1, w2, w3, w4] l (small i) (thr a b c l)), .int .i64 (wprod a b c L [w0, w1, w2, w3, w4] l (small j) (thr a b c l)), .int .i64 0]) ∧ Below w.heap.size w w' := by
  obtain ⟨hn1, hn4⟩ := thr_some hF.z l0 l1
  have HC := Lib.hid (fun (i : Nat) (hi : i < 24) (Bu : Nat) (W : World) (hb : Below w.heap.size w W) (hu : URead w Bu (small i)) => closure_any a b c l L (small i) Bc Bw Bu bl off cap k pb po xs (thr a b c l) w0 w1 w2 w3 w4 W hF ((⟨hT.cb, hT.wb, hu, hT.li, hT.pl, hT.xl⟩ : Cap a b c w Bc Bw Bu bl off cap k pb po l L (small i) [w0, w1, w2, w3, w4] (thr a b c l) xs).later hb) (fun p hp => by obtain ⟨i, hi⟩ := List.getElem?_of_mem hp; exact thr_rng hi) hn4 hw ⟨i, hi, rfl⟩)
  have hxi : R[i]? = some (R[i]'(by rw [hT.n]; exact hi)) := List.getElem?_eq_getElem _
  have hxj : R[j]? = some (R[j]'(by rw [hT.n]; exact hj)) := List.getElem?_eq_getElem _
  obtain ⟨-, Bi, hi2, hiu, -⟩ := hT.rows i _ hxi
  obtain ⟨-, Bj, hj2, hju, -⟩ := hT.rows j _ hxj
  have ri := rc_at R i _ hxi
  have rj := rc_at R j _ hxj
  rw [hi2] at ri
  rw [hj2] at rj
  have RI := Lib.hid ri
  have RJ := Lib.hid rj
  have ci := fun (W : World) (hb : Below w.heap.size w W) => HC.out i hi Bi W hb hiu
  have cj := fun (W : World) (hb : Below w.heap.size w W) => HC.out j hj Bj W hb hju
  clear HC hxi hxj hi2 hj2 hiu hju ri rj hT hF hw l0 l1 hn1 hn4
  have tb0 := (ABx.news (w := w) (T := 77) (R.flatMap rc).toArray)
  have hB : Below w.heap.size w (w.alloc (.cells (R.flatMap rc).toArray 77)) := ba1
  generalize wprod a b c L [w0, w1, w2, w3, w4] l (small (i : Int)) (thr a b c l) = vi1 at *
  generalize wprod a b c L [w0, w1, w2, w3, w4] l (small (j : Int)) (thr a b c l) = vj1 at *
  have i1 : (i : Int) < 24 := by omega
  have j1 : (j : Int) < 24 := by omega
  go_enter Tryz.func57, Tryz.ntmps57
  have T0 := Lib.hid tb0
  have gi := (tb0.cell (i * 6 + 5)).trans RI.out
  have B0 := Lib.hid hB
  unfold fnv at gi
  clear tb0 hB
  go_wp2_with (fail)
  refine (ci _ B0.out).mono ?_
  rintro e y1 ⟨rfl, hy1⟩
  have T1 := T0.out.later hy1
  have B1 := Lib.hid (B0.out.trans (hy1.mono B0.out.size))
  have gj := (T1.cell (j * 6 + 5)).trans RJ.out
  unfold fnv at gj
  clear T0 B0 gi hy1 T1
  go_wp2_with (fail)
  refine (cj _ B1.out).mono ?_
  rintro e y2 ⟨rfl, hy2⟩
  clear gj
  go_wp2
  go_ret3
  exact ⟨rfl, B1.out.trans (hy2.mono B1.out.size)⟩
/-! ### the ratio -/
/-- two numbers over their greatest common divisor -/
def rtv (x y : Int) : Int × Int := (x / gc x y, y / gc x y)
/-- a weight -/
def Wg (x : Int) : Prop := 1 ≤ x ∧ x ≤ 100000000
theorem rtv_facts {x y : Int} (hx : Wg x) (hy : Wg y) : ∃ p q G, rtv x y = (p, q) ∧ gc x y = G ∧ 1 ≤ G ∧ G ≤ 100000000 ∧ 0 ≤ p ∧ p ≤ 100000000 ∧ 0 ≤ q ∧ q ≤ 100000000 ∧ x.tdiv G = p ∧ x / G = p ∧ y.tdiv G = q ∧ y / G = q := by
  obtain ⟨x0, x1⟩ := hx
  obtain ⟨y0, y1⟩ := hy
  have hg : (1 : Int) ≤ gc x y := by
    have : 0 < Nat.gcd x.natAbs y.natAbs := Nat.gcd_pos_of_pos_left _ (by omega)
    unfold gc
    omega
  have hgx : gc x y ≤ x := by
    have : Nat.gcd x.natAbs y.natAbs ≤ x.natAbs := Nat.gcd_le_left _ (by omega)
    unfold gc
    omega
  refine ⟨_, _, _, rfl, rfl, hg, by omega, Int.ediv_nonneg (by omega) (by omega), ?_, Int.ediv_nonneg (by omega) (by omega), ?_, Int.tdiv_eq_ediv_of_nonneg (by omega), rfl, Int.tdiv_eq_ediv_of_nonneg (by omega), rfl⟩
  · have := Int.ediv_le_self (gc x y) (show 0 ≤ x by omega); omega
  · have := Int.ediv_le_self (gc x y) (show 0 ≤ y by omega); omega
theorem wrap_in {x p : Int} (e : x = p) (h : 0 ≤ p) (h1 : p ≤ 100000000) : IntKind.i64.wrap x = p := by rw [e]; exact IntWalk.i64_in _ (by omega)
theorem t24_new (W : World) (A : Array Value) : ((W.alloc (.cells Tryz.zeroCells77 77)).setRow W.heap.size A).heap[W.heap.size]? = some (.cells A 77 (0, 0)) := setRow_heap _ _ _ A 77 (0, 0) (ABx.news (w := W) (T := 77) Tryz.zeroCells77).h
theorem t24_below (W : World) (A : Array Value) : Below W.heap.size W ((W.alloc (.cells Tryz.zeroCells77 77)).setRow W.heap.size A) := by
  have b0 : Below W.heap.size W (W.alloc (.cells Tryz.zeroCells77 77)) := ba1
  exact b0.grown (grown_setRow _ W.heap.size A) b0.size (fun i hi => by simp at hi; omega)
/-- a block that is known whole, by its array -/
structure RowT (w : World) (m : Nat) (T : TypeId) (A : Array Value) : Prop where
  h : w.heap[m]? = some (.cells A T (0, 0))
theorem RowT.later {w w1 : World} {m : Nat} {T : TypeId} {A : Array Value} (k : RowT w m T A) (hb : Below w.heap.size w w1) : RowT w1 m T A := ⟨(hb.block m (Array.getElem?_eq_some_iff.1 k.h).1).trans k.h⟩
set_option maxHeartbeats 6400000 in
theorem ratio_bad (a b c p0 p1 p2 p3 p4 l x r : Int) (ao : Option Addr) (cap : Nat) (L : List Q) (w : World)
    (hm : LiesO w ao L) (hr : r ≠ 0)
    (c1 : ∀ (W : World) (_ : LiesO W ao L), Calls Tryz.prog 40 #[.agg #[.int .i64 a, .int .i64 b, .int .i64 c, .slice ao L.length cap], .agg #[.int .i64 p0, .int .i64 p1, .int .i64 p2, .int .i64 p3, .int .i64 p4], .int .i64 l] W fun e w' => e = .returned (.int .i64 r) ∧ Below W.heap.size W w') : Calls Tryz.prog 23 #[.agg #[.int .i64 a, .int .i64 b, .int .i64 c, .slice ao L.length cap], .agg #[.int .i64 p0, .int .i64 p1, .int .i64 p2, .int .i64 p3, .int .i64 p4], .int .i64 l, .int .i64 x] w fun e w' => e = .returned (.tuple #[.agg #[.int .i64 ((0, 0)).1, .int .i64 ((0, 0)).2], .int .i64 r]) ∧ Below w.heap.size w w' := by
  have h0' : (r != 0) = true := by simpa using hr
  have h0'' : (r == 0) = false := by simpa using hr
  have H0 := Lib.hid hm
  clear hm hr
  go_enter Tryz.func23, Tryz.ntmps23
  go_wp2_with (fail)
  refine (c1 _ (H0.out.later ba3)).mono ?_
  rintro e w1 ⟨rfl, hw1⟩
  have bw1 : Below w.heap.size w w1 := bel3 hw1
  have F1 := Lib.hid (FW.n3a.later hw1)
  have E1 := Lib.hid (C5.n3b.later hw1)
  have Z1 := Lib.hid (C2.n3c.later hw1)
  have H1 := Lib.hid (H0.out.later bw1)
  have HB1 := Lib.hid bw1
  clear hw1 bw1 H0
  obtain ⟨z1_0, z1_1, z1_2, z1_3⟩ := Z1.out
  go_wp2
  refine bodyPost_ret (v := .tuple #[.agg #[.int .i64 ((0, 0)).1, .int .i64 ((0, 0)).2], .int .i64 r]) ?_ rfl ⟨rfl, ?_⟩
  · simp [results, Tryz.results23, go_sem, z1_0, z1_1, z1_3]
  · have hb := HB1.out
    repeat (first | (with_reducible exact Below.refl _ _) | (with_reducible refine Below.setCell ?_ ?_ _) | (with_reducible refine Below.drew ?_) | (with_reducible refine Below.alloc ?_ ?_ _) | (with_reducible refine Below.trans ?_ (Below.mono hb ?_)) | (with_reducible exact hb.size) | omega | (simp <;> omega) | (simp <;> (have s := hb.size; omega)) | (have s0 := hb.size; (try simp at s0); (try simp); omega))
set_option maxHeartbeats 6400000 in
theorem ratio_arg (a b c p0 p1 p2 p3 p4 l x : Int) (ao : Option Addr) (cap : Nat) (L : List Q) (w : World)
    (hm : LiesO w ao L) (hx : ¬ (0 ≤ x ∧ x < 24))
    (c1 : ∀ (W : World) (_ : LiesO W ao L), Calls Tryz.prog 40 #[.agg #[.int .i64 a, .int .i64 b, .int .i64 c, .slice ao L.length cap], .agg #[.int .i64 p0, .int .i64 p1, .int .i64 p2, .int .i64 p3, .int .i64 p4], .int .i64 l] W fun e w' => e = .returned (.int .i64 0) ∧ Below W.heap.size W w') : Calls Tryz.prog 23 #[.agg #[.int .i64 a, .int .i64 b, .int .i64 c, .slice ao L.length cap], .agg #[.int .i64 p0, .int .i64 p1, .int .i64 p2, .int .i64 p3, .int .i64 p4], .int .i64 l, .int .i64 x] w fun e w' => e = .returned (.tuple #[.agg #[.int .i64 ((0, 0)).1, .int .i64 ((0, 0)).2], .int .i64 1]) ∧ Below w.heap.size w w' := by
  have k1 := fun W => isVal_any x false W (.inr ⟨by omega, rfl⟩)
  have H0 := Lib.hid hm
  clear hm hx
  go_enter Tryz.func23, Tryz.ntmps23
  go_wp2_with (fail)
  refine (c1 _ (H0.out.later ba3)).mono ?_
  rintro e w1 ⟨rfl, hw1⟩
  have bw1 : Below w.heap.size w w1 := bel3 hw1
  have F1 := Lib.hid (FW.n3a.later hw1)
  have E1 := Lib.hid (C5.n3b.later hw1)
  have Z1 := Lib.hid (C2.n3c.later hw1)
  have H1 := Lib.hid (H0.out.later bw1)
  have HB1 := Lib.hid bw1
  clear hw1 bw1 H0
  go_wp2_with (fail)
  refine (k1 _).mono ?_
  rintro e w2 ⟨rfl, hw2⟩
  have bw2 : Below w1.heap.size w1 w2 := hw2
  have H2 := Lib.hid (H1.out.later bw2)
  have F2 := Lib.hid (F1.out.later bw2)
  have E2 := Lib.hid (E1.out.later bw2)
  have Z2 := Lib.hid (Z1.out.later bw2)
  have HB2 := Lib.hid (HB1.out.trans (bw2.mono HB1.out.size))
  clear hw2 bw2 H1 F1 E1 Z1 HB1
  obtain ⟨z2_0, z2_1, z2_2, z2_3⟩ := Z2.out
  go_wp2
  refine bodyPost_ret (v := .tuple #[.agg #[.int .i64 ((0, 0)).1, .int .i64 ((0, 0)).2], .int .i64 1]) ?_ rfl ⟨rfl, ?_⟩
  · simp [results, Tryz.results23, go_sem, z2_0, z2_1, z2_3]
  · have hb := HB2.out
    repeat (first | (with_reducible exact Below.refl _ _) | (with_reducible refine Below.setCell ?_ ?_ _) | (with_reducible refine Below.drew ?_) | (with_reducible refine Below.alloc ?_ ?_ _) | (with_reducible refine Below.trans ?_ (Below.mono hb ?_)) | (with_reducible exact hb.size) | omega | (simp <;> omega) | (simp <;> (have s := hb.size; omega)) | (have s0 := hb.size; (try simp at s0); (try simp); omega))
set_option maxHeartbeats 6400000 in
theorem refRatio_bad (a b c p0 p1 p2 p3 p4 l x r : Int) (ao : Option Addr) (cap : Nat) (L : List Q) (w : World)
    (hm : LiesO w ao L) (hr : r ≠ 0)
    (c1 : ∀ (W : World) (_ : LiesO W ao L), Calls Tryz.prog 43 #[.agg #[.int .i64 a, .int .i64 b, .int .i64 c, .slice ao L.length cap], .agg #[.int .i64 p0, .int .i64 p1, .int .i64 p2, .int .i64 p3, .int .i64 p4], .int .i64 l] W fun e w' => e = .returned (.int .i64 r) ∧ Below W.heap.size W w') : Calls Tryz.prog 24 #[.agg #[.int .i64 a, .int .i64 b, .int .i64 c, .slice ao L.length cap], .agg #[.int .i64 p0, .int .i64 p1, .int .i64 p2, .int .i64 p3, .int .i64 p4], .int .i64 l, .int .i64 x] w fun e w' => e = .returned (.tuple #[.agg #[.int .i64 ((0, 0)).1, .int .i64 ((0, 0)).2], .int .i64 r]) ∧ Below w.heap.size w w' := by
  have h0' : (r != 0) = true := by simpa using hr
  have h0'' : (r == 0) = false := by simpa using hr
  have H0 := Lib.hid hm
  clear hm hr
  go_enter Tryz.func24, Tryz.ntmps24
  go_wp2_with (fail)
  refine (c1 _ (H0.out.later ba3)).mono ?_
  rintro e w1 ⟨rfl, hw1⟩
  have bw1 : Below w.heap.size w w1 := bel3 hw1
  have F1 := Lib.hid (FW.n3a.later hw1)
  have E1 := Lib.hid (C5.n3b.later hw1)
  have Z1 := Lib.hid (C2.n3c.later hw1)
  have H1 := Lib.hid (H0.out.later bw1)
  have HB1 := Lib.hid bw1
  clear hw1 bw1 H0
  obtain ⟨z1_0, z1_1, z1_2, z1_3⟩ := Z1.out
  go_wp2
  refine bodyPost_ret (v := .tuple #[.agg #[.int .i64 ((0, 0)).1, .int .i64 ((0, 0)).2], .int .i64 r]) ?_ rfl ⟨rfl, ?_⟩
  · simp [results, Tryz.results24, go_sem, z1_0, z1_1, z1_3]
  · have hb := HB1.out
    repeat (first | (with_reducible exact Below.refl _ _) | (with_reducible refine Below.setCell ?_ ?_ _) | (with_reducible refine Below.drew ?_) | (with_reducible refine Below.alloc ?_ ?_ _) | (with_reducible refine Below.trans ?_ (Below.mono hb ?_)) | (with_reducible exact hb.size) | omega | (simp <;> omega) | (simp <;> (have s := hb.size; omega)) | (have s0 := hb.size; (try simp at s0); (try simp); omega))
set_option maxHeartbeats 6400000 in
theorem refRatio_arg (a b c p0 p1 p2 p3 p4 l x : Int) (ao : Option Addr) (cap : Nat) (L : List Q) (w : World)
    (hm : LiesO w ao L) (hx : ¬ (0 ≤ x ∧ x < 24))
    (c1 : ∀ (W : World) (_ : LiesO W ao L), Calls Tryz.prog 43 #[.agg #[.int .i64 a, .int .i64 b, .int .i64 c, .slice ao L.length cap], .agg #[.int .i64 p0, .int .i64 p1, .int .i64 p2, .int .i64 p3, .int .i64 p4], .int .i64 l] W fun e w' => e = .returned (.int .i64 0) ∧ Below W.heap.size W w') : Calls Tryz.prog 24 #[.agg #[.int .i64 a, .int .i64 b, .int .i64 c, .slice ao L.length cap], .agg #[.int .i64 p0, .int .i64 p1, .int .i64 p2, .int .i64 p3, .int .i64 p4], .int .i64 l, .int .i64 x] w fun e w' => e = .returned (.tuple #[.agg #[.int .i64 ((0, 0)).1, .int .i64 ((0, 0)).2], .int .i64 1]) ∧ Below w.heap.size w w' := by
  have k1 := fun W => within5v_any x 0 23 W false (.inr ⟨by omega, rfl⟩)
  have H0 := Lib.hid hm
  clear hm hx
  go_enter Tryz.func24, Tryz.ntmps24
  go_wp2_with (fail)
  refine (c1 _ (H0.out.later ba3)).mono ?_
  rintro e w1 ⟨rfl, hw1⟩
  have bw1 : Below w.heap.size w w1 := bel3 hw1
  have F1 := Lib.hid (FW.n3a.later hw1)
  have E1 := Lib.hid (C5.n3b.later hw1)
  have Z1 := Lib.hid (C2.n3c.later hw1)
  have H1 := Lib.hid (H0.out.later bw1)
  have HB1 := Lib.hid bw1
  clear hw1 bw1 H0
  go_wp2_with (fail)
  refine (k1 _).mono ?_
  rintro e wx ⟨rfl, rfl⟩
  obtain ⟨z1_0, z1_1, z1_2, z1_3⟩ := Z1.out
  go_wp2
  refine bodyPost_ret (v := .tuple #[.agg #[.int .i64 ((0, 0)).1, .int .i64 ((0, 0)).2], .int .i64 1]) ?_ rfl ⟨rfl, ?_⟩
  · simp [results, Tryz.results24, go_sem, z1_0, z1_1, z1_3]
  · have hb := HB1.out
    repeat (first | (with_reducible exact Below.refl _ _) | (with_reducible refine Below.setCell ?_ ?_ _) | (with_reducible refine Below.drew ?_) | (with_reducible refine Below.alloc ?_ ?_ _) | (with_reducible refine Below.trans ?_ (Below.mono hb ?_)) | (with_reducible exact hb.size) | omega | (simp <;> omega) | (simp <;> (have s := hb.size; omega)) | (have s0 := hb.size; (try simp at s0); (try simp); omega))
set_option maxHeartbeats 6400000 in
theorem ratio_ok (a b c p0 p1 p2 p3 p4 l x : Int) (bl off cap i j n : Nat) (L : List Q) (w : World)
    (hm : Lies w bl off L) (hst : StA w) (hF : SmF a b c L) (hWO : WOk [p0, p1, p2, p3, p4]) (hl : l = n) (hn : n < L.length) (hx : x = i) (hi : i < 24) (hj : j < 24) (hlk : L[n]? = some (small j))
    (hv1 : Wg (wprod a b c L [p0, p1, p2, p3, p4] l (small i) (thr a b c l))) (hv2 : Wg (wprod a b c L [p0, p1, p2, p3, p4] l (small j) (thr a b c l)))
    (c1 : ∀ (W : World) (_ : Lies W bl off L), Calls Tryz.prog 40 #[.agg #[.int .i64 a, .int .i64 b, .int .i64 c, .slice (some ⟨bl, off, none⟩) L.length cap], .agg #[.int .i64 p0, .int .i64 p1, .int .i64 p2, .int .i64 p3, .int .i64 p4], .int .i64 l] W fun e w' => e = .returned (.int .i64 0) ∧ Below W.heap.size W w') : Calls Tryz.prog 23 #[.agg #[.int .i64 a, .int .i64 b, .int .i64 c, .slice (some ⟨bl, off, none⟩) L.length cap], .agg #[.int .i64 p0, .int .i64 p1, .int .i64 p2, .int .i64 p3, .int .i64 p4], .int .i64 l, .int .i64 x] w fun e w' => e = .returned (.tuple #[.agg #[.int .i64 ((rtv (wprod a b c L [p0, p1, p2, p3, p4] l (small i) (thr a b c l)) (wprod a b c L [p0, p1, p2, p3, p4] l (small j) (thr a b c l)))).1, .int .i64 ((rtv (wprod a b c L [p0, p1, p2, p3, p4] l (small i) (thr a b c l)) (wprod a b c L [p0, p1, p2, p3, p4] l (small j) (thr a b c l)))).2], .int .i64 0]) ∧ Below w.heap.size w w' := by
  have l0 : 0 ≤ l := by omega
  have l1 : l < 3 * (a * b * c) := by have := hF.n; omega
  have k1 := fun W => isVal_any x true W (.inl ⟨by omega, by omega, rfl⟩)
  have c2 := fun (W : World) (k : Lies W bl off L) (hs : StA W) => table2_any a b c l L bl off cap p0 p1 p2 p3 p4 W hF l0 l1 k hs
  have c3 := Lib.hid (fun (R : List (Q × Value)) (Bc Bw m k pb po : Nat) (xs : List Value) (W : World) (hT : TbR a b c l L bl off cap [p0, p1, p2, p3, p4] R Bc Bw m k pb po xs W) => pair5_any a b c l L R Bc Bw m bl off cap k pb po xs p0 p1 p2 p3 p4 W hF l0 l1 hT hWO i j hi hj)
  have hsm : V (small (j : Int)) := (show Sm (small (j : Int)) from ⟨j, hj, rfl⟩).v
  have cN := fun (W : World) => number_ok (small (j : Int)) j true W hsm (.inl ⟨j, hj, rfl, fun m hm e => by have := small_inj m (by omega) j hj e; omega, rfl, rfl⟩)
  obtain ⟨p, q, G, hpq, hG, G0, G1, P0, P1, Q0, Q1, d1, d2, d3, d4⟩ := rtv_facts hv1 hv2
  rw [hpq]
  have t1 := wrap_in d1 P0 P1
  have t2 := wrap_in d2 P0 P1
  have t3 := wrap_in d3 Q0 Q1
  have t4 := wrap_in d4 Q0 Q1
  have cD := fun (W : World) => divisor5_any (wprod a b c L [p0, p1, p2, p3, p4] l (small i) (thr a b c l)) (wprod a b c L [p0, p1, p2, p3, p4] l (small j) (thr a b c l)) W ⟨by have := hv1.1; omega, by have := hv1.2; omega⟩ ⟨by have := hv2.1; omega, by have := hv2.2; omega⟩
  rw [hG] at cD
  obtain ⟨v1, v2⟩ := hv1
  obtain ⟨v3, v4⟩ := hv2
  have Gz : ¬ G = 0 := by omega
  have HLK := Lib.hid hlk
  have H0 := Lib.hid hm
  have S0 := Lib.hid hst
  clear hm hst hpq hG hlk hF hWO hsm d1 d2 d3 d4 l0 l1
  subst hl hx
  have i1 : (n : Int) < (L.length : Int) := by omega
  generalize wprod a b c L [p0, p1, p2, p3, p4] (n : Int) (small (i : Int)) (thr a b c (n : Int)) = ab at *
  generalize wprod a b c L [p0, p1, p2, p3, p4] (n : Int) (small (j : Int)) (thr a b c (n : Int)) = be at *
  generalize small (j : Int) = u at *
  have kc := @Tail.cell_re
  go_enter Tryz.func23, Tryz.ntmps23
  go_wp2_with (fail)
  refine (c1 _ (H0.out.later ba3)).mono ?_
  rintro e w1 ⟨rfl, hw1⟩
  have bw1 : Below w.heap.size w w1 := bel3 hw1
  have F1 := Lib.hid (FW.n3a.later hw1)
  have E1 := Lib.hid (C5.n3b.later hw1)
  have Z1 := Lib.hid (C2.n3c.later hw1)
  have H1 := Lib.hid (H0.out.later bw1)
  have S1 := Lib.hid (S0.out.later bw1)
  have HB1 := Lib.hid bw1
  clear hw1 bw1 H0 S0
  go_wp2_with (fail)
  refine (k1 _).mono ?_
  rintro e w2 ⟨rfl, hw2⟩
  have bw2 : Below w1.heap.size w1 w2 := hw2
  have H2 := Lib.hid (H1.out.later bw2)
  have S2 := Lib.hid (S1.out.later bw2)
  have F2 := Lib.hid (F1.out.later bw2)
  have E2 := Lib.hid (E1.out.later bw2)
  have Z2 := Lib.hid (Z1.out.later bw2)
  have HB2 := Lib.hid (HB1.out.trans (bw2.mono HB1.out.size))
  clear hw2 bw2 H1 S1 F1 E1 Z1 HB1
  obtain ⟨f2_0, f2_1, f2_2, f2_3, f2_4, f2_5⟩ := F2.out
  obtain ⟨e2_0, e2_1, e2_2, e2_3, e2_4, e2_5, e2_6⟩ := E2.out
  go_wp2_with (fail)
  refine (c2 _ (H2.out) (S2.out)).mono ?_
  rintro e w3 ⟨⟨R, Bc, Bw, m, k, pb, po, xs, rfl, hT⟩, hw3⟩
  clear f2_0 f2_1 f2_2 f2_3 f2_4 f2_5 e2_0 e2_1 e2_2 e2_3 e2_4 e2_5 e2_6
  have bw3 : Below w2.heap.size w2 w3 := hw3
  have H3 := Lib.hid (H2.out.later bw3)
  have S3 := Lib.hid (S2.out.later bw3)
  have F3 := Lib.hid (F2.out.later bw3)
  have E3 := Lib.hid (E2.out.later bw3)
  have Z3 := Lib.hid (Z2.out.later bw3)
  have HB3 := Lib.hid (HB2.out.trans (bw3.mono HB2.out.size))
  have T3 := Lib.hid hT
  clear hT
  clear hw3 bw3 H2 S2 F2 E2 Z2 HB2
  clear E3
  clear S3
  have hA144 : (R.flatMap rc).toArray.size = 144 := by rw [List.size_toArray, flat6, T3.out.n]
  have HSZ := Lib.hid (show (Tryz.prog.info? 77).map (·.size) = some (R.flatMap rc).toArray.size by rw [infoRt, hA144])
  have HONE := Lib.hid (rc_one R w3 Bc Bw m T3.out.rows)
  have TZ := Lib.hid (ABx.news (w := w3) (T := 77) Tryz.zeroCells77)
  have HOLD := Lib.hid (show (Tryz.zeroCells77.toList.toArray).size = (R.flatMap rc).toArray.size by rw [hA144]; simp [zeroRt])
  have c3a := Lib.hid (c3.out R Bc Bw m k pb po xs)
  clear hA144 c3
  generalize (R.flatMap rc).toArray = A at *
  have nx := t24_below w3 A
  have H4 := Lib.hid (H3.out.later nx)
  have F4 := Lib.hid (F3.out.later nx)
  have Z4 := Lib.hid (Z3.out.later nx)
  have T4 := Lib.hid (T3.out.later nx)
  have HB4 := Lib.hid (HB3.out.trans (nx.mono HB3.out.size))
  have A4 : Hid (RowT _ _ _ _) := Lib.hid ⟨t24_new w3 A⟩
  clear nx H3 F3 Z3 T3 HB3
  obtain ⟨f0, f1, f2, f3, ff, fl⟩ := F4.out
  obtain ⟨g0, g1, g2, g3, g4⟩ := H4.out.atP HLK.out
  go_wp2_with (refine wpList_store_row rfl 77 (.tmp 11) (.tmp 35) rfl w3.heap.size A rfl rfl 77 Tryz.zeroCells77.toList.toArray TZ.out.h HSZ.out HOLD.out HONE.out ?_)
  refine (cN _).mono ?_
  rintro e w5 ⟨rfl, hw5⟩
  clear f0 f1 f2 f3 ff fl g0 g1 g2 g3 g4 TZ HOLD HONE cN
  have H5 := Lib.hid (H4.out.later hw5)
  have F5 := Lib.hid (F4.out.later hw5)
  have Z5 := Lib.hid (Z4.out.later hw5)
  have T5 := Lib.hid (T4.out.later hw5)
  have A5 := Lib.hid (A4.out.later hw5)
  have HB5 := Lib.hid (HB4.out.trans (hw5.mono HB4.out.size))
  clear hw5 HB4 H4 F4 Z4 T4 A4
  go_wp2_with (refine wpList_load_row rfl 77 (.tmp 11) rfl _ rfl 77 A (0, 0) _ A5.out.h Tryz.underlying77 rfl HSZ.out ?_)
  refine (c3a.out _ T5.out).mono ?_
  rintro e w6 ⟨rfl, hw6⟩
  clear T5
  clear A5
  clear H5
  clear F5
  have Z6 := Lib.hid (Z5.out.later hw6)
  have HB6 := Lib.hid (HB5.out.trans (hw6.mono HB5.out.size))
  clear hw6 HB5 Z5 c3a HSZ
  go_wp2_with (fail)
  refine (cD _).mono ?_
  rintro e w7 ⟨rfl, hw7⟩
  have bw7 : Below w6.heap.size w6 w7 := hw7
  have Z7 := Lib.hid (Z6.out.later bw7)
  have HB7 := Lib.hid (HB6.out.trans (bw7.mono HB6.out.size))
  clear hw7 bw7 Z6 HB6
  go_wp2_with (fail)
  refine Tail.region_tail_below 6 (by kernel_rfl) (by kernel_rfl) ?_
  simp only [List.take_succ_cons, List.take_zero, List.drop_succ_cons, List.drop_zero]
  repeat (go_big_quiet_step (fail))
  refine wpQuiet_nil ?_
  intro w8 hw8
  have Z8 := Lib.hid (Z7.out.later hw8)
  have HB8 := Lib.hid (HB7.out.trans (hw8.mono HB7.out.size))
  clear hw8 HB7 Z7
  obtain ⟨z8_0, z8_1, z8_2, z8_3⟩ := Z8.out
  go_wp2
  refine bodyPost_ret (v := .tuple #[.agg #[.int .i64 ((p, q)).1, .int .i64 ((p, q)).2], .int .i64 0]) ?_ rfl ⟨rfl, ?_⟩
  · simp [results, Tryz.results23, go_sem, z8_0, z8_1, z8_3]
  · have hb := HB8.out
    repeat (first | (with_reducible exact Below.refl _ _) | (with_reducible refine Below.setCell ?_ ?_ _) | (with_reducible refine Below.drew ?_) | (with_reducible refine Below.alloc ?_ ?_ _) | (with_reducible refine Below.trans ?_ (Below.mono hb ?_)) | (with_reducible exact hb.size) | omega | (simp <;> omega) | (simp <;> (have s := hb.size; omega)) | (have s0 := hb.size; (try simp at s0); (try simp); omega))
set_option maxHeartbeats 6400000 in
theorem refRatio_ok (a b c p0 p1 p2 p3 p4 l x v1 v2 : Int) (bl off cap i j n : Nat) (L : List Q) (w : World)
    (hm : Lies w bl off L) (ls : List Int) (hls : ls.length = 24) (hl : l = n) (hn : n < L.length) (hx : x = i) (hi : i < 24) (hj : j < 24) (hlk : L[n]? = some (small j)) (g1 : ls[i]? = some v1) (g2 : ls[j]? = some v2) (hv1 : Wg v1) (hv2 : Wg v2)
    (c1 : ∀ (W : World) (_ : Lies W bl off L), Calls Tryz.prog 43 #[.agg #[.int .i64 a, .int .i64 b, .int .i64 c, .slice (some ⟨bl, off, none⟩) L.length cap], .agg #[.int .i64 p0, .int .i64 p1, .int .i64 p2, .int .i64 p3, .int .i64 p4], .int .i64 l] W fun e w' => e = .returned (.int .i64 0) ∧ Below W.heap.size W w')
    (c2 : ∀ (W : World) (_ : Lies W bl off L), Calls Tryz.prog 44 #[.agg #[.int .i64 a, .int .i64 b, .int .i64 c, .slice (some ⟨bl, off, none⟩) L.length cap], .agg #[.int .i64 p0, .int .i64 p1, .int .i64 p2, .int .i64 p3, .int .i64 p4], .int .i64 l] W fun e w' => e = .returned (.agg (ls.map vi).toArray) ∧ Below W.heap.size W w') : Calls Tryz.prog 24 #[.agg #[.int .i64 a, .int .i64 b, .int .i64 c, .slice (some ⟨bl, off, none⟩) L.length cap], .agg #[.int .i64 p0, .int .i64 p1, .int .i64 p2, .int .i64 p3, .int .i64 p4], .int .i64 l, .int .i64 x] w fun e w' => e = .returned (.tuple #[.agg #[.int .i64 ((rtv v1 v2)).1, .int .i64 ((rtv v1 v2)).2], .int .i64 0]) ∧ Below w.heap.size w w' := by
  have k1 := fun W => within5v_any x 0 23 W true (.inl ⟨by omega, by omega, rfl⟩)
  have cN := fun (W : World) => number5_any j hj W
  obtain ⟨p, q, G, hpq, hG, G0, G1, P0, P1, Q0, Q1, d1, d2, d3, d4⟩ := rtv_facts hv1 hv2
  rw [hpq]
  have t1 := wrap_in d1 P0 P1
  have t2 := wrap_in d2 P0 P1
  have t3 := wrap_in d3 Q0 Q1
  have t4 := wrap_in d4 Q0 Q1
  have Gz : ¬ G = 0 := by omega
  have hA := R24.of hls
  have SZ := Lib.hid hA.sz
  have OL := Lib.hid hA.ol
  have ON := Lib.hid hA.one
  have e1 : (ls.map vi).toArray[i]? = some (.int .i64 v1) := by rw [List.getElem?_toArray, List.getElem?_map, g1]; rfl
  have e2 : (ls.map vi).toArray[j]? = some (.int .i64 v2) := by rw [List.getElem?_toArray, List.getElem?_map, g2]; rfl
  have E1' := Lib.hid e1
  have E2' := Lib.hid e2
  have HLK := Lib.hid hlk
  have H0 := Lib.hid hm
  have HGC := Lib.hid hG
  obtain ⟨v10, v11⟩ := hv1
  obtain ⟨v20, v21⟩ := hv2
  clear hm hpq hlk d1 d2 d3 d4 hA e1 e2 g1 g2 hls hG
  subst hl hx
  have i1 : (n : Int) < (L.length : Int) := by omega
  have i2 : (i : Int) < 24 := by omega
  have i3 : (j : Int) < 24 := by omega
  generalize (ls.map vi).toArray = A at *
  generalize small (j : Int) = u at *
  have kc := @Tail.cell_re
  go_enter Tryz.func24, Tryz.ntmps24
  go_wp2_with (fail)
  refine (c1 _ (H0.out.later ba3)).mono ?_
  rintro e w1 ⟨rfl, hw1⟩
  have bw1 : Below w.heap.size w w1 := bel3 hw1
  have F1 := Lib.hid (FW.n3a.later hw1)
  have E1 := Lib.hid (C5.n3b.later hw1)
  have Z1 := Lib.hid (C2.n3c.later hw1)
  have H1 := Lib.hid (H0.out.later bw1)
  have HB1 := Lib.hid bw1
  clear hw1 bw1 H0
  go_wp2_with (fail)
  refine (k1 _).mono ?_
  rintro e wx ⟨rfl, rfl⟩
  obtain ⟨f1_0, f1_1, f1_2, f1_3, f1_4, f1_5⟩ := F1.out
  obtain ⟨e1_0, e1_1, e1_2, e1_3, e1_4, e1_5, e1_6⟩ := E1.out
  go_wp2_with (fail)
  refine (c2 _ (H1.out)).mono ?_
  rintro e w2 ⟨rfl, hw2⟩
  clear f1_0 f1_1 f1_2 f1_3 f1_4 f1_5 e1_0 e1_1 e1_2 e1_3 e1_4 e1_5 e1_6
  have bw2 : Below w1.heap.size w1 w2 := hw2
  have H2 := Lib.hid (H1.out.later bw2)
  have F2 := Lib.hid (F1.out.later bw2)
  have E2 := Lib.hid (E1.out.later bw2)
  have Z2 := Lib.hid (Z1.out.later bw2)
  have HB2 := Lib.hid (HB1.out.trans (bw2.mono HB1.out.size))
  clear hw2 bw2 H1 F1 E1 Z1 HB1
  clear E2
  have TZ := Lib.hid (ABx.news (w := w2) (T := 29) #[.int .i64 0, .int .i64 0, .int .i64 0, .int .i64 0, .int .i64 0, .int .i64 0, .int .i64 0, .int .i64 0, .int .i64 0, .int .i64 0, .int .i64 0, .int .i64 0, .int .i64 0, .int .i64 0, .int .i64 0, .int .i64 0, .int .i64 0, .int .i64 0, .int .i64 0, .int .i64 0, .int .i64 0, .int .i64 0, .int .i64 0, .int .i64 0])
  have nx := r24_below w2 A
  have H3 := Lib.hid (H2.out.later nx)
  have F3 := Lib.hid (F2.out.later nx)
  have Z3 := Lib.hid (Z2.out.later nx)
  have HB3 := Lib.hid (HB2.out.trans (nx.mono HB2.out.size))
  have A3 : Hid (RowT _ _ _ _) := Lib.hid ⟨r24_new w2 A⟩
  clear nx H2 F2 Z2 HB2
  go_upto_region 8 with (refine wpList_store_row rfl 29 (.tmp 11) (.tmp 32) rfl w2.heap.size A rfl rfl 29 _ TZ.out.h SZ.out OL.out ON.out ?_)
  clear TZ SZ OL ON
  generalize (w2.alloc (.cells #[.int .i64 0, .int .i64 0, .int .i64 0, .int .i64 0, .int .i64 0, .int .i64 0, .int .i64 0, .int .i64 0, .int .i64 0, .int .i64 0, .int .i64 0, .int .i64 0, .int .i64 0, .int .i64 0, .int .i64 0, .int .i64 0, .int .i64 0, .int .i64 0, .int .i64 0, .int .i64 0, .int .i64 0, .int .i64 0, .int .i64 0, .int .i64 0] 29)).setRow w2.heap.size A = w3 at *
  generalize w2.heap.size = xb at *
  obtain ⟨f0, f1, f2, f3, ff, fl⟩ := F3.out
  obtain ⟨g0, g1, g2, g3, g4⟩ := H3.out.atP HLK.out
  have a1 := r24_cell A3.out.h E1'.out
  have a2 := r24_cell A3.out.h E2'.out
  have ax := World.block_lt_of_cell? w3 _ a1
  have gx := World.block_lt_of_cell? w3 _ g0
  go_wp2_with (fail)
  refine Tail.region_below (by kernel_rfl) (by kernel_rfl) ?_
  try simp only [Act.put]
  repeat (go_big_quiet_step (with_reducible exact Calls.regrown_of (cN _)))
  refine wpQuiet_nil ?_
  intro w4 hw4
  clear f0 f1 f2 f3 ff fl g0 g1 g2 g3 g4 a1 a2 ax gx
  clear H3
  clear F3
  clear A3
  have Z4 := Lib.hid (Z3.out.later hw4)
  have HB4 := Lib.hid (HB3.out.trans (hw4.mono HB3.out.size))
  clear hw4 HB3 Z3
  go_wp2
  go_loopw [14, 15, 16] (fun r s _ wr => ∃ x y : Int, r = .int .i64 x ∧ s = .int .i64 y ∧ 0 ≤ x ∧ x ≤ 100000000 ∧ 0 ≤ y ∧ y ≤ 100000000 ∧ Hid (gc x y = G) ∧ wr = w4) (fun _ q _ _ => (intOf q).natAbs)
  case atStart => exact ⟨v1, v2, rfl, rfl, by omega, by omega, by omega, by omega, HGC, rfl⟩
  case round =>
    obtain ⟨x, y, rfl, rfl, hx1, hx2, hy1, hy2, hg, rfl⟩ := hrel
    by_cases h0 : y = 0
    · subst h0
      obtain rfl : x = G := by have := hg.out; rw [gc_zero] at this; omega
      go_wp2_with (fail)
      refine Tail.region_tail_below 6 (by kernel_rfl) (by kernel_rfl) ?_
      simp only [List.take_succ_cons, List.take_zero, List.drop_succ_cons, List.drop_zero]
      repeat (go_big_quiet_step (fail))
      refine wpQuiet_nil ?_
      intro y1 hy1
      have HB5 := Lib.hid (HB4.out.trans (hy1.mono HB4.out.size))
      obtain ⟨z5_0, z5_1, z5_2, z5_3⟩ := Z4.out.later hy1
      go_wp2
      refine bodyPost_ret (v := .tuple #[.agg #[.int .i64 ((p, q)).1, .int .i64 ((p, q)).2], .int .i64 0]) ?_ rfl ⟨rfl, ?_⟩
      · simp [results, Tryz.results24, go_sem, z5_0, z5_1, z5_3]
      · have hb := HB5.out
        repeat (first | (with_reducible exact Below.refl _ _) | (with_reducible refine Below.setCell ?_ ?_ _) | (with_reducible refine Below.drew ?_) | (with_reducible refine Below.alloc ?_ ?_ _) | (with_reducible refine Below.trans ?_ (Below.mono hb ?_)) | (with_reducible exact hb.size) | omega | (simp <;> omega) | (simp <;> (have s := hb.size; omega)) | (have s0 := hb.size; (try simp at s0); (try simp); omega))
    · have h1 : 1 ≤ y := by omega
      have h2 : ¬ y = 0 := h0
      go_wp2
      have ht := Int.emod_lt_of_pos x (show 0 < y by omega)
      have hp := Int.emod_nonneg x (show y ≠ 0 by omega)
      exact ⟨⟨y, x % y, rfl, rfl, by omega, by omega, by omega, by omega, Lib.hid ((gc_step' _ _ hx1).trans hg.out), trivial⟩, by simp [intOf]; omega⟩
end Go.Proofs.YtpfhjdmgkckjfaaGreatDoor
