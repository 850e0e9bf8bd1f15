/- Ratio: two weights over their greatest common divisor, on both sides.
Conditions: those written at each theorem. -/
import Derived.Test.YtpfhjdmgkckjfaaGreatDoorASameU4
namespace Go.Proofs.YtpfhjdmgkckjfaaGreatDoor
set_option linter.unusedVariables false
set_option linter.unusedSimpArgs false
set_option maxRecDepth 1000000
open Go.RowKit
open Um Tm Cm

set_option maxHeartbeats 1600000 in
/-- the number of a small unit, as the document's answers find it -/
theorem number5_any (k : Nat) (hk : k < 24) (w : World) : Calls Tryz.prog 59 #[.agg #[.int .i64 (small k).a, .int .i64 (small k).b, .int .i64 (small k).c, .int .i64 (small k).d, .int .i64 (small k).n]] w fun e w' => e = .returned (.int .i64 k) ∧ Below w.heap.size w w' := by
  have cU := Lib.hid (fun (v : Nat) (hv : v < 24) (W : World) => unit5_any v W (by omega) (by omega))
  have QT := Lib.hid (fun (j : Nat) (hj : j < k) (W : World) => show Sem.run Tryz.prog (Op.equalIn 10000 73 (.agg #[.int .i64 (small (j : Int)).a, .int .i64 (small (j : Int)).b, .int .i64 (small (j : Int)).c, .int .i64 (small (j : Int)).d, .int .i64 (small (j : Int)).n]) (.agg #[.int .i64 (small (k : Int)).a, .int .i64 (small (k : Int)).b, .int .i64 (small (k : Int)).c, .int .i64 (small (k : Int)).d, .int .i64 (small (k : Int)).n])) W = .ok false W by
    rw [eqU]
    have : ¬ small (j : Int) = small (k : Int) := fun e => by have := small_inj j (by omega) k hk e; omega
    simp [this])
  have QS := Lib.hid (fun (W : World) => show Sem.run Tryz.prog (Op.equalIn 10000 73 (.agg #[.int .i64 (small (k : Int)).a, .int .i64 (small (k : Int)).b, .int .i64 (small (k : Int)).c, .int .i64 (small (k : Int)).d, .int .i64 (small (k : Int)).n]) (.agg #[.int .i64 (small (k : Int)).a, .int .i64 (small (k : Int)).b, .int .i64 (small (k : Int)).c, .int .i64 (small (k : Int)).d, .int .i64 (small (k : Int)).n])) W = .ok true W by rw [eqU]; simp)
  have ur0 : URead (w.alloc (.cells #[.int .i64 (small (k : Int)).a, .int .i64 (small (k : Int)).b, .int .i64 (small (k : Int)).c, .int .i64 (small (k : Int)).d, .int .i64 (small (k : Int)).n] 73)) w.heap.size (small (k : Int)) := ⟨by simp [go_sem], by simp [go_sem], by simp [go_sem], by simp [go_sem], by simp [go_sem], by simp⟩
  have UR := Lib.hid ur0
  have HB := Lib.hid (ba1 (w := w) (o := .cells #[.int .i64 (small (k : Int)).a, .int .i64 (small (k : Int)).b, .int .i64 (small (k : Int)).c, .int .i64 (small (k : Int)).d, .int .i64 (small (k : Int)).n] 73))
  clear ur0
  have kc := @Tail.cell_re
  go_enter Tryz.func59, Tryz.ntmps59
  go_wp2
  go_loopw [3] (fun q wr => ∃ j : Nat, j ≤ k ∧ q = .int .i64 j ∧ Hid (URead wr w.heap.size (small (k : Int))) ∧ Below w.heap.size w wr) (fun q _ => 24 - (intOf q).toNat)
  case atStart => exact ⟨0, by omega, rfl, UR, HB.out⟩
  case round =>
    obtain ⟨j, hj, rfl, ur, hb⟩ := hrel
    clear UR HB
    have i1 : (j : Int) < 24 := by omega
    have c1 := cU.out j (by omega)
    obtain ⟨u0, u1, u2, u3, u4, ul⟩ := ur.out
    by_cases hlt : j < k
    · have q1 := QT.out j hlt
      generalize small (j : Int) = y at *
      generalize small (k : Int) = x at *
      go_wp2_with (fail)
      refine Tail.region_below (by kernel_rfl) (by kernel_rfl) ?_
      repeat (go_big_quiet_step (with_reducible exact Calls.regrown_of (c1 _)))
      refine wpQuiet_nil ?_
      intro w1 hw1
      have ur1 := Lib.hid (ur.out.later hw1)
      clear u0 u1 u2 u3 u4 ul
      go_wp2
      exact ⟨⟨j + 1, by omega, by go_num, ur1, hb.trans (hw1.mono hb.size)⟩, by simp [intOf]; omega⟩
    · obtain rfl : j = k := by omega
      have q1 := QS.out
      generalize small (j : Int) = x at *
      go_wp2_with (fail)
      refine Tail.region_below (by kernel_rfl) (by kernel_rfl) ?_
      repeat (go_big_quiet_step (with_reducible exact Calls.regrown_of (c1 _)))
      refine wpQuiet_nil ?_
      intro w1 hw1
      clear u0 u1 u2 u3 u4 ul
      go_wp2
      go_ret
      exact ⟨rfl, hb.trans (hw1.mono hb.size)⟩
/-! ### the program's table, and two of its weights -/
/-- a table in memory: what its functions have captured -/
structure TbR (a b c l : Int) (L : List Q) (bl off cap : Nat) (ws : List Int) (R : List (Q × Value)) (Bc Bw m k pb po : Nat) (xs : List Value) (w : World) : Prop where
  n : R.length = 24
  rows : Rows w Bc Bw m R
  cb : CB w Bc (.slice (some ⟨bl, off, none⟩) L.length cap) l (.slice (some ⟨pb, po, none⟩) (thr a b c l).length k)
  wb : WB w Bw ws
  li : Lies w bl off L
  pl : PLs a b c w xs (thr a b c l)
  xl : ∀ (i : Nat) (x : Value), xs[i]? = some x → w.cell? ⟨pb, po + i, none⟩ = some x
theorem TbR.later {a b c l : Int} {L : List Q} {bl off cap : Nat} {ws : List Int} {R : List (Q × Value)} {Bc Bw m k pb po : Nat} {xs : List Value} {w w1 : World} (h : TbR a b c l L bl off cap ws R Bc Bw m k pb po xs w) (hb : Below w.heap.size w w1) : TbR a b c l L bl off cap ws R Bc Bw m k pb po xs w1 :=
  ⟨h.n, h.rows.later hb, h.cb.later hb, h.wb.later hb, h.li.later hb, h.pl.later hb, fun i x hx => (hb.cell (World.block_lt_of_cell? w _ (h.xl i x hx))).trans (h.xl i x hx)⟩
theorem table2_any (a b c l : Int) (L : List Q) (bl off cap : Nat) (w0 w1 w2 w3 w4 : Int) (w : World) (hF : SmF a b c L) (h0 : 0 ≤ l) (h1 : l < 3 * (a * b * c)) (hL : Lies w bl off L) (hst : StA w) :
    Calls Tryz.prog 41 #[.agg #[.int .i64 a, .int .i64 b, .int .i64 c, .slice (some ⟨bl, off, none⟩) L.length cap], .agg #[.int .i64 w0, .int .i64 w1, .int .i64 w2, .int .i64 w3, .int .i64 w4], .int .i64 l] w fun e w' => (∃ (R : List (Q × Value)) (Bc Bw m k pb po : Nat) (xs : List Value), e = .returned (.tuple #[.agg (R.flatMap rc).toArray, .int .i64 0]) ∧ TbR a b c l L bl off cap [w0, w1, w2, w3, w4] R Bc Bw m k pb po xs w') ∧ Below w.heap.size w w' := by
  refine (table_any a b c l L bl off cap w0 w1 w2 w3 w4 w hF h0 h1 hL hst).mono ?_
  rintro e w' ⟨⟨R, Bc, Bw, m, k, pb, po, xs, rfl, hR, hRw, hcb, hwb, hP, hX⟩, hw'⟩
  exact ⟨⟨R, Bc, Bw, m, k, pb, po, xs, rfl, hR, hRw, hcb, hwb, hL.later hw', hP, hX⟩, hw'⟩
/-! ### the ratio -/
/-- two numbers over their greatest common divisor -/
def rtv (x y : Int) : Int × Int := (x / gc x y, y / gc x y)
/-- a weight -/
def Wg (x : Int) : Prop := 1 ≤ x ∧ x ≤ 100000000
theorem t24_new (W : World) (A : Array Value) : ((W.alloc (.cells Tryz.zeroCells77 77)).setRow W.heap.size A).heap[W.heap.size]? = some (.cells A 77 (0, 0)) := setRow_heap _ _ _ A 77 (0, 0) (ABx.news (w := W) (T := 77) Tryz.zeroCells77).h
theorem t24_below (W : World) (A : Array Value) : Below W.heap.size W ((W.alloc (.cells Tryz.zeroCells77 77)).setRow W.heap.size A) := by
  have b0 : Below W.heap.size W (W.alloc (.cells Tryz.zeroCells77 77)) := ba1
  exact b0.grown (grown_setRow _ W.heap.size A) b0.size (fun i hi => by simp at hi; omega)
/-- a block that is known whole, by its array -/
structure RowT (w : World) (m : Nat) (T : TypeId) (A : Array Value) : Prop where
  h : w.heap[m]? = some (.cells A T (0, 0))
theorem RowT.later {w w1 : World} {m : Nat} {T : TypeId} {A : Array Value} (k : RowT w m T A) (hb : Below w.heap.size w w1) : RowT w1 m T A := ⟨(hb.block m (Array.getElem?_eq_some_iff.1 k.h).1).trans k.h⟩
end Go.Proofs.YtpfhjdmgkckjfaaGreatDoor
