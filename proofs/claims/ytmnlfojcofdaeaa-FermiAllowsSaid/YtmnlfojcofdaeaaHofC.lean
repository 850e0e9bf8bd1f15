/- The arms of a small field, as the program makes them.
Conditions: the field is valid and small, its links lie in memory. -/
import Derived.Test.YtmnlfojcofdaeaaOfC
import Derived.Deep.RegionHeld3
import Derived.Deep.AppendLies
import Derived.Deep.RegionLawGrows
namespace Go.Proofs.Ytmnlfojcofdaeaa
set_option linter.unusedVariables false
set_option linter.unusedSimpArgs false
set_option maxRecDepth 1000000
open Go.RowKit
open Um Tm Fm

theorem row_upd (A : List Arm) (x : Arm) : row (A ++ [x]) = upd (row A) x.to (row A x.to ++ [x]) := by
  funext t
  rw [row_snoc]
  by_cases h : x.to = t
  · subst h; rw [if_pos rfl, upd_same]
  · rw [if_neg h, upd_other _ _ (fun e => h e.symm)]
theorem row_len (A : List Arm) (s : Nat) : (row A s).length ≤ A.length := List.length_filter_le _ _
theorem arms_len (a b c : Int) (L : List Q) : ∀ k, (arms a b c L k).length = 2 * k
  | 0 => rfl
  | k + 1 => by simp only [arms, List.length_append, arms_len a b c L k, List.length_cons, List.length_nil]; omega
theorem infoAs : (Try.prog.info? 110).map (fun i => (i.zero, i.size, i.bytes)) = some (some (.slice none 0 0), 1, 24) := by kernel_rfl
theorem makeH (W : World) (n : Nat) (x : Int) (hx : x = n) (hn : n ≤ 1000000) : (Instr.makeSlice 70 (.int .i64 x) (.int .i64 x)).run Try.prog W = .ok (.slice (some ⟨W.heap.size, 0, none⟩) n n) (W.alloc (.cells (madeCells #[.slice none 0 0] n) 110)) := by
  obtain ⟨i0, hi, hz0, hz1, hz2⟩ := info_parts infoAs
  have := run_make (P := Try.prog) W 70 110 i0 _ Try.underlying70 hi hz0 .i64 .i64 x x (by omega) (Int.le_refl _) (by rw [hz2]; omega) (by omega)
  rw [this, hz1, hx, Int.toNat_natCast, Nat.mul_one]
  rfl
theorem free_of {w : World} {g : Nat} {cs : Array Value} {T : TypeId} (h : w.heap[g]? = some (.cells cs T)) : ∀ j, w.frozen? ⟨g, j, none⟩ = false := fun j => by simp [World.frozen?, h]
theorem Hp.made (w : World) (n : Nat) (base : Nat) : Hp (w.alloc (.cells (madeCells #[.slice none 0 0] n) 110)) base w.heap.size n (fun _ => .slice none 0 0) (row []) := by
  have h := heap_alloc_new w (.cells (madeCells #[.slice none 0 0] n) 110)
  refine ⟨fun s hs => ?_, fun s _ => World.ownsRow_nil _ _ _ _, fun s _ => by simp [Value.ownBlock], fun _ _ _ _ _ => .inl rfl, free_of h, by simp⟩
  simp only [World.cell?, h]
  have e : (madeCells #[(.slice none 0 0 : Value)] n)[s]? = some (.slice none 0 0) := by
    unfold madeCells
    rw [Array.getElem?_map, Array.getElem?_range, if_pos (by omega)]
    show some (#[(.slice none 0 0 : Value)][s % 1]!) = _
    rw [Nat.mod_one]
    rfl
  simpa using e
theorem fac_eq (a b : Int) {L : List Q} {k : Nat} {u : Q} (h : L[k]? = some u) : fac a b L k = smS (sg3 a b ((k : Int) % 3) ((k : Int) / 3)) (tw u) := by
  unfold fac ln
  rw [List.getD_eq_getElem?_getD, h]
  simp
theorem frozen_ad {W : World} {b : Nat} (o : Obj) (j : Nat) (h : b < W.heap.size) : (W.alloc o).drew.frozen? ⟨b, j, none⟩ = W.frozen? ⟨b, j, none⟩ :=
  (show Below W.heap.size W (W.alloc o).drew by repeat (first | (with_reducible exact Below.refl _ _) | (with_reducible refine Below.setCell ?_ ?_ _) | (with_reducible refine Below.drew ?_) | (with_reducible refine Below.alloc ?_ ?_ _) | omega | (simp <;> omega))).frozen (p := ⟨b, j, none⟩) h
theorem owned_base {w : World} {base base' : Nat} {e : TypeId} {size : Nat} {v : Value} {n : Nat} {xs : List Value} (h : w.ownsRow base e size v n xs) (hb : base' ≤ base) : w.ownsRow base' e size v n xs :=
  ⟨h.1, h.2.elim .inl (fun ⟨g, cap, cur, h1, h2, h3⟩ => .inr ⟨g, cap, cur, h1, Nat.le_trans hb h2, h3⟩)⟩
theorem five_news {w : World} {b : Nat} {x0 x1 x2 x3 x4 : Value} {vs : List Value} (hv : vs = [x0, x1, x2, x3, x4]) (h0 : w.cell? ⟨b, 0, none⟩ = some x0) (h1 : w.cell? ⟨b, 1, none⟩ = some x1) (h2 : w.cell? ⟨b, 2, none⟩ = some x2) (h3 : w.cell? ⟨b, 3, none⟩ = some x3) (h4 : w.cell? ⟨b, 4, none⟩ = some x4) : ∀ j u, vs[j]? = some u → w.cell? (Addr.add ⟨b, 0, none⟩ j) = some u := by
  subst hv
  intro j u hj
  match j, hj with
  | 0, hj => simp at hj; subst hj; exact h0
  | 1, hj => simp at hj; subst hj; exact h1
  | 2, hj => simp at hj; subst hj; exact h2
  | 3, hj => simp at hj; subst hj; exact h3
  | 4, hj => simp at hj; subst hj; exact h4
  | n + 5, hj => simp at hj
theorem wr_mul (x k : Int) : IntKind.i64.wrap (wrap64 x * k) = wrap64 (k * x) := by
  rw [IntWalk.i64_left, w_mul_l, Int.mul_comm]
theorem wr_mul' (x k : Int) : wrap64 (wrap64 x * k) = wrap64 (k * x) := by rw [w_mul_l, Int.mul_comm]
theorem wr_neg (x : Int) : IntKind.i64.wrap (-wrap64 x) = wrap64 (-x) := by rw [IntWalk.i64_left, w_neg]
theorem wr_neg' (x : Int) : wrap64 (-wrap64 x) = wrap64 (-x) := w_neg x
/-- what is answered of a field: its arms -/
def RetH (m n : Nat) (R : Nat → List Arm) (e : Ending) (w' : World) : Prop := ∃ (g : Nat) (vs : Nat → Value), e = .returned (.tuple #[.slice (some ⟨g, 0, none⟩) n n, .int .i64 0]) ∧ Hp w' m g n vs R ∧ m ≤ g
set_option maxHeartbeats 6400000 in
theorem hoppingOf_any (a b c : Int) (bl off cap n : Nat) (L : List Q) (w : World) (hz : Sz a b c) (hn : (n : Int) = a * b * c) (hlen : L.length = n * 3) (hL : Lies w bl off L) (hsm : ∀ (i : Nat) (x : Q), L[i]? = some x → N12 x) : Calls Try.prog 50 #[.agg #[.int .i64 a, .int .i64 b, .int .i64 c, .slice (some ⟨bl, off, none⟩) L.length cap]] w fun e w' => RetH w.heap.size n (row (arms a b c L L.length)) e w' ∧ Below w.heap.size w w' := by
  obtain ⟨i0, hi, hz0, hz1, hz2⟩ := info_parts infoA
  have hn16 : n ≤ 16 := by have := hz.p; omega
  have HL := Lib.hid hL
  have HS := Lib.hid hsm
  have HZ := Lib.hid hz
  have HN := Lib.hid hn
  have HE := Lib.hid hlen
  have hL48 : L.length ≤ 48 := by omega
  have mk := fun (W : World) => makeH W n ((L.length : Int) / 3) (by omega) (by omega)
  have HR := Lib.hid (fun k => show arms a b c L (k + 1) = arms a b c L k ++ [arm1 a b c L k] ++ [arm2 a b c L k] from rfl)
  have HF0 := Lib.hid (show FBox ((w.alloc (.cells #[.int .i64 a, .int .i64 b, .int .i64 c, .slice (some ⟨bl, off, none⟩) L.length cap] 25)).alloc (.cells (madeCells #[.slice none 0 0] n) 110)) w.heap.size a b c (.slice (some ⟨bl, off, none⟩) L.length cap) by
    refine FBox.later ?_ ((Below.refl _ _).alloc (Nat.le_refl _) _)
    exact ⟨by simp [go_sem], by simp [go_sem], by simp [go_sem], by simp [go_sem], by simp⟩)
  have K0 := Lib.hid (Hp.made (w.alloc (.cells #[.int .i64 a, .int .i64 b, .int .i64 c, .slice (some ⟨bl, off, none⟩) L.length cap] 25)) n (w.heap.size + 2))
  have HB0 := Lib.hid (show Below w.heap.size w ((w.alloc (.cells #[.int .i64 a, .int .i64 b, .int .i64 c, .slice (some ⟨bl, off, none⟩) L.length cap] 25)).alloc (.cells (madeCells #[.slice none 0 0] n) 110)) by repeat (first | (with_reducible exact Below.refl _ _) | (with_reducible refine Below.setCell ?_ ?_ _) | (with_reducible refine Below.drew ?_) | (with_reducible refine Below.alloc ?_ ?_ _) | omega | (simp <;> omega)))
  have hg0 : (w.alloc (.cells #[.int .i64 a, .int .i64 b, .int .i64 c, .slice (some ⟨bl, off, none⟩) L.length cap] 25)).heap.size = w.heap.size + 1 := by simp
  rw [hg0] at K0
  clear hL hsm hz hn hg0 hlen
  have kc := @Tail.cell_re
  have kc1 : ∀ (W : World) (o : Obj) (d : Nat) (os : Array Obj) (a : Addr), a.block ≤ W.heap.size → (Sort.grow (redrawn (W.alloc o) d) os).cell? a = (W.alloc o).cell? a := fun W o d os a h => Tail.cell_re (W.alloc o) d os a (Nat.lt_of_le_of_lt h (by simp))
  go_enter Try.func50, Try.ntmps50
  go_wp2
  generalize (w.alloc (.cells #[.int .i64 a, .int .i64 b, .int .i64 c, .slice (some ⟨bl, off, none⟩) L.length cap] 25)).alloc (.cells (madeCells #[.slice none 0 0] n) 110) = W0 at *
  go_loopw [5, 6, 7, 8, 9, 10, 11, 12, 13, 22] (fun _ _ _ _ _ _ _ _ _ q wr => ∃ (k : Nat) (vs : Nat → Value), k ≤ L.length ∧ q = .int .i64 k ∧ Hid (FBox wr w.heap.size a b c (.slice (some ⟨bl, off, none⟩) L.length cap)) ∧ Hid (Hp wr (w.heap.size + 2) (w.heap.size + 1) n vs (row (arms a b c L k))) ∧ Hid (Below w.heap.size w wr)) (fun _ _ _ _ _ _ _ _ _ q _ => L.length - (intOf q).toNat)
  case atStart => exact ⟨0, _, by omega, rfl, HF0, K0, HB0⟩
  case round =>
    obtain ⟨k, vs, hk, rfl, hf, hH, hb⟩ := hrel
    clear HF0 K0 HB0
    by_cases hlt : k < L.length
    · have i1 : (k : Int) < (L.length : Int) := by omega
      have hx : L[k]? = some L[k] := List.getElem?_eq_getElem hlt
      have hsm := HS.out k _ hx
      obtain ⟨l0, l1, l2, l3, l4⟩ := HL.out.later hb.out k _ hx
      have hs0 : k / 3 < n := by have := HE.out; omega
      have hsI : (k : Int) / 3 < a * b * c := by rw [← HN.out]; omega
      have hfac := fac_eq a b hx
      have hy := nxl_rng HZ.out k
      have hyn : nxl a b c k < n := by have := HN.out; omega
      have c1 := fun W : World => nextO_any a b c ((k : Int) / 3) ((k : Int) % 3 + 1) _ _ W (.inr (.inr (.inr ⟨HZ.out, by omega, hsI, ⟨by omega, by omega, by omega⟩, rfl, rfl⟩)))
      have c2 := fun W : World => signO_in a b c ((k : Int) / 3) ((k : Int) % 3) W HZ.out (by omega) hsI (by omega) (by omega)
      have c3 := fun W : World => twice7_any L[k] W hsm
      rw [show nx a b c ((k : Int) / 3) ((k : Int) % 3 + 1) = ((nxl a b c k : Nat) : Int) by rw [hy.1]; simp] at c1
      have hrw := HR.out k
      unfold arm1 arm2 at hrw
      rw [hfac] at hrw
      have hA1 : a5 ⟨k / 3, nxl a b c k, smS (sg3 a b ((k : Int) % 3) ((k : Int) / 3)) (tw L[k])⟩ = [vi (nxl a b c k : Nat), vi (smS (sg3 a b ((k : Int) % 3) ((k : Int) / 3)) (tw L[k])).w.a, vi (smS (sg3 a b ((k : Int) % 3) ((k : Int) / 3)) (tw L[k])).w.b, vi (smS (sg3 a b ((k : Int) % 3) ((k : Int) / 3)) (tw L[k])).w.c, vi (smS (sg3 a b ((k : Int) % 3) ((k : Int) / 3)) (tw L[k])).w.d] := rfl
      have hA2 : a5 ⟨nxl a b c k, k / 3, flipS (smS (sg3 a b ((k : Int) % 3) ((k : Int) / 3)) (tw L[k]))⟩ = [vi (k / 3 : Nat), vi (flipS (smS (sg3 a b ((k : Int) % 3) ((k : Int) / 3)) (tw L[k]))).w.a, vi (smS (sg3 a b ((k : Int) % 3) ((k : Int) / 3)) (tw L[k])).w.b, vi (smS (sg3 a b ((k : Int) % 3) ((k : Int) / 3)) (tw L[k])).w.c, vi (smS (sg3 a b ((k : Int) % 3) ((k : Int) / 3)) (tw L[k])).w.d] := rfl
      generalize L[k] = u at *
      generalize nxl a b c k = y at *
      generalize sg3 a b ((k : Int) % 3) ((k : Int) / 3) = σ at *
      have e0 := wr_mul (tw u).a σ
      have f0 := wr_mul' (tw u).a σ
      rw [show wrap64 (σ * (tw u).a) = (smS σ (tw u)).w.a from rfl, show wrap64 (tw u).a = (tw u).w.a from rfl] at e0 f0
      have e1 := wr_mul (tw u).b σ
      have f1 := wr_mul' (tw u).b σ
      rw [show wrap64 (σ * (tw u).b) = (smS σ (tw u)).w.b from rfl, show wrap64 (tw u).b = (tw u).w.b from rfl] at e1 f1
      have e2 := wr_mul (tw u).c σ
      have f2 := wr_mul' (tw u).c σ
      rw [show wrap64 (σ * (tw u).c) = (smS σ (tw u)).w.c from rfl, show wrap64 (tw u).c = (tw u).w.c from rfl] at e2 f2
      have e3 := wr_mul (tw u).d σ
      have f3 := wr_mul' (tw u).d σ
      rw [show wrap64 (σ * (tw u).d) = (smS σ (tw u)).w.d from rfl, show wrap64 (tw u).d = (tw u).w.d from rfl] at e3 f3
      have e9 := wr_neg (smS σ (tw u)).a
      have f9 := wr_neg' (smS σ (tw u)).a
      rw [show wrap64 (smS σ (tw u)).a = (smS σ (tw u)).w.a from rfl, show wrap64 (-(smS σ (tw u)).a) = (flipS (smS σ (tw u))).w.a from rfl] at e9 f9
      have HRW := Lib.hid hrw
      have HA1 := Lib.hid hA1
      have HA2 := Lib.hid hA2
      clear hrw hA1 hA2
      generalize (flipS (smS σ (tw u))).w.a = fa at *
      generalize (smS σ (tw u)).w = v at *
      obtain ⟨f0', f1', f2', f3', fl⟩ := hf.out
      have HTW := Lib.hid (show (tw u).w = (tw u).w from rfl)
      clear HTW
      generalize (tw u).w = t at *
      have i4 : (k : Int) / 3 < (n : Int) := by omega
      have i5 : (0 : Int) ≤ (k : Int) / 3 := by omega
      have i6 : (y : Int) < (n : Int) := by omega
      have hrl1 := row_len (arms a b c L k) (k / 3)
      rw [arms_len] at hrl1
      clear hx hy hsm hfac
      go_wp2_with (first | ((with_reducible refine (c1 _).mono ?_); clear c1; rintro e w1 ⟨rfl, hw1⟩; have hc1 := Tail.cells hw1; have z1 : wr.heap.size < w1.heap.size := (by have s1 := hw1.size; simp at s1; omega)) | ((with_reducible refine (c2 _).mono ?_); clear c2; rintro e w2 ⟨rfl, hw2⟩; have hc2 := Tail.cells hw2; have z2 : wr.heap.size < w2.heap.size := Nat.lt_of_lt_of_le z1 hw2.size) | ((with_reducible refine (c3 _).mono ?_); clear c3; rintro e w3 ⟨rfl, hw3⟩; have hc3 := Tail.cells hw3))
      have b3 : Below wr.heap.size wr w3 := by repeat (first | (with_reducible exact Below.refl _ _) | (with_reducible refine Below.setCell ?_ ?_ _) | (with_reducible refine Below.drew ?_) | (with_reducible refine Below.alloc ?_ ?_ _) | (with_reducible refine Below.trans ?_ (Below.mono hw3 ?_)) | (with_reducible refine Below.trans ?_ (Below.mono hw2 ?_)) | (with_reducible refine Below.trans ?_ (Below.mono hw1 ?_)) | (with_reducible exact hw3.size) | (with_reducible exact hw2.size) | (with_reducible exact hw1.size) | omega | (simp <;> omega) | (simp <;> (have s := hw3.size; omega)) | (simp <;> (have s := hw2.size; omega)) | (simp <;> (have s := hw1.size; omega)) | (have s0 := hw3.size; (try simp at s0); have s1 := hw2.size; (try simp at s1); have s2 := hw1.size; (try simp at s2); (try simp); omega))
      have z3 := b3.size
      have bW := b3.alloc z3 (.cells #[.int .i64 t.a, .int .i64 t.b, .int .i64 t.c, .int .i64 t.d] 64)
      have X0 := Lib.hid (IBox.fresh4 (heap_alloc_new w3 (.cells #[.int .i64 t.a, .int .i64 t.b, .int .i64 t.c, .int .i64 t.d] 64)))
      have F0 := Lib.hid (hf.out.later bW)
      have P0 := Lib.hid (hH.out.later bW)
      have B0 := Lib.hid (hb.out.trans (bW.mono hb.out.size))
      have hfar : ∀ t, t < n → (vs t).ownBlock ≠ some w3.heap.size := fun t ht e => by
        have := (hH.out.own t ht).lt _ e
        omega
      have OF := Lib.hid hfar
      have hq1 : w.heap.size + 1 < w3.heap.size := by have := hH.out.lt; omega
      clear b3 bW hfar hc1 hc2 hc3 z1 z2 z3 hw1 hw2 hw3 fl f0' f1' f2' f3' l0 l1 l2 l3 l4 hf hH hb
      generalize w3.alloc (.cells #[.int .i64 t.a, .int .i64 t.b, .int .i64 t.c, .int .i64 t.d] 64) = W0 at *
      generalize w3.heap.size = qb at *
      have G0 := Lib.hid (show W0.grownBy W0 (some qb) from grown_below (Below.refl _ _))
      refine wp_loop_rounds 5 ?_
      have c0 := X0.out.at (i := 0) (x := t.a) rfl
      have fq := X0.out.free
      have lq := X0.out.lt
      rw [rounds_succ]
      go_wp2
      have X1 := Lib.hid (show IBox (W0.setCell ⟨qb, 0, none⟩ (.int .i64 v.a)) qb [v.a, t.b, t.c, t.d] from X0.out.put 0 (by simp) v.a)
      have G1 := Lib.hid (G0.out.trans (grown_setCell W0 ⟨qb, 0, none⟩ (.int .i64 v.a)))
      clear c0 fq lq X0 G0 e0 f0
      generalize W0.setCell ⟨qb, 0, none⟩ (.int .i64 v.a) = W1 at *
      have c0 := X1.out.at (i := 1) (x := t.b) rfl
      have fq := X1.out.free
      have lq := X1.out.lt
      rw [rounds_succ]
      go_wp2
      have X2 := Lib.hid (show IBox (W1.setCell ⟨qb, 1, none⟩ (.int .i64 v.b)) qb [v.a, v.b, t.c, t.d] from X1.out.put 1 (by simp) v.b)
      have G2 := Lib.hid (G1.out.trans (grown_setCell W1 ⟨qb, 1, none⟩ (.int .i64 v.b)))
      clear c0 fq lq X1 G1 e1 f1
      generalize W1.setCell ⟨qb, 1, none⟩ (.int .i64 v.b) = W2 at *
      have c0 := X2.out.at (i := 2) (x := t.c) rfl
      have fq := X2.out.free
      have lq := X2.out.lt
      rw [rounds_succ]
      go_wp2
      have X3 := Lib.hid (show IBox (W2.setCell ⟨qb, 2, none⟩ (.int .i64 v.c)) qb [v.a, v.b, v.c, t.d] from X2.out.put 2 (by simp) v.c)
      have G3 := Lib.hid (G2.out.trans (grown_setCell W2 ⟨qb, 2, none⟩ (.int .i64 v.c)))
      clear c0 fq lq X2 G2 e2 f2
      generalize W2.setCell ⟨qb, 2, none⟩ (.int .i64 v.c) = W3 at *
      have c0 := X3.out.at (i := 3) (x := t.d) rfl
      have fq := X3.out.free
      have lq := X3.out.lt
      rw [rounds_succ]
      go_wp2
      have X4 := Lib.hid (show IBox (W3.setCell ⟨qb, 3, none⟩ (.int .i64 v.d)) qb [v.a, v.b, v.c, v.d] from X3.out.put 3 (by simp) v.d)
      have G4 := Lib.hid (G3.out.trans (grown_setCell W3 ⟨qb, 3, none⟩ (.int .i64 v.d)))
      clear c0 fq lq X3 G3 e3 f3
      generalize W3.setCell ⟨qb, 3, none⟩ (.int .i64 v.d) = W4 at *
      rw [rounds_succ]
      have F4 := Lib.hid (F0.out.grown G4.out (by simp; omega))
      have P4 := Lib.hid (P0.out.other G4.out (by omega) OF.out)
      have B4 := Lib.hid (B0.out.grown G4.out B0.out.size (fun j hj => by cases hj; omega))
      clear F0 P0 B0 G4
      have x0 := X4.out.at (i := 0) (x := v.a) rfl
      have x1 := X4.out.at (i := 1) (x := v.b) rfl
      have x2 := X4.out.at (i := 2) (x := v.c) rfl
      have x3 := X4.out.at (i := 3) (x := v.d) rfl
      have lq := X4.out.lt
      have t0 := P4.out.cell (k / 3) hs0
      have t1 := P4.out.free (k / 3)
      have lg := P4.out.lt
      have own1 := P4.out.own (k / 3) hs0
      obtain ⟨ao, cp, hv, -⟩ := P4.out.form hs0
      rw [hv] at t0 own1
      have HV := Lib.hid hv
      have OW1 := Lib.hid own1
      have n1 : ((k : Int) / 3).toNat = k / 3 := by omega
      have NQ := Lib.hid (show some qb ≠ (Value.slice ao (row (arms a b c L k) (k / 3)).length cp).ownBlock from fun e => OF.out (k / 3) hs0 (by rw [hv]; exact e.symm))
      have NG := Lib.hid (show some (w.heap.size + 1) ≠ (Value.slice ao (row (arms a b c L k) (k / 3)).length cp).ownBlock from fun e => P4.out.far (k / 3) hs0 (by rw [hv]; exact e.symm))
      have q1 : ¬ qb = w.heap.size + 1 := by omega
      have q2 : ¬ w.heap.size + 1 = qb := by omega
      clear hv own1
      go_wp2
      refine wp_region_noPanic ?_
      refine wp_region_held_drew (S := (fun w' => w'.cell? ⟨qb, 0, none⟩ = some (.int .i64 v.a) ∧ w'.cell? ⟨qb, 1, none⟩ = some (.int .i64 v.b) ∧ w'.cell? ⟨qb, 2, none⟩ = some (.int .i64 v.c) ∧ w'.cell? ⟨qb, 3, none⟩ = some (.int .i64 v.d))) (by kernel_rfl) ?_ (fun hHeld => ?_)
      · (try dsimp only)
        first | go_keep | (refine ⟨?_, ?_, ?_, ?_⟩ <;> first | assumption | go_keep | (rw [World.cell?_setCell_other _ _ _ _ (by simp <;> omega)]; assumption))
      refine wpAnyH_take (i := 0) (v := ?_) rfl (by kernel_rfl) (by kernel_rfl) (by kernel_rfl) (fun _ _ _ h => h) (Or.inl ⟨by rfl, ?_⟩) (by assumption) ?_
      rotate_left
      · (intro w hSw; (try dsimp only at hSw); (try simp only [List.getElem_toArray, List.getElem_cons_zero, List.getElem_cons_succ]); go_simp; (try with_reducible rfl))
      (try simp only [Act.put, List.setIfInBounds_toArray, List.set_cons_zero, List.set_cons_succ, List.getElem_toArray, List.getElem_cons_zero, List.getElem_cons_succ])
      refine wpAnyH_take (i := 1) (v := ?_) rfl (by kernel_rfl) (by kernel_rfl) (by kernel_rfl) (fun _ _ _ h => h) (Or.inl ⟨by rfl, ?_⟩) (by assumption) ?_
      rotate_left
      · (intro w hSw; (try dsimp only at hSw); (try simp only [List.getElem_toArray, List.getElem_cons_zero, List.getElem_cons_succ]); go_simp; (try with_reducible rfl))
      (try simp only [Act.put, List.setIfInBounds_toArray, List.set_cons_zero, List.set_cons_succ, List.getElem_toArray, List.getElem_cons_zero, List.getElem_cons_succ])
      refine wpAnyH_take (i := 2) (v := ?_) rfl (by kernel_rfl) (by kernel_rfl) (by kernel_rfl) (fun _ _ _ h => h) (Or.inl ⟨by rfl, ?_⟩) (by assumption) ?_
      rotate_left
      · (intro w hSw; (try dsimp only at hSw); (try simp only [List.getElem_toArray, List.getElem_cons_zero, List.getElem_cons_succ]); go_simp; (try with_reducible rfl))
      (try simp only [Act.put, List.setIfInBounds_toArray, List.set_cons_zero, List.set_cons_succ, List.getElem_toArray, List.getElem_cons_zero, List.getElem_cons_succ])
      refine wpAnyH_take (i := 3) (v := ?_) rfl (by kernel_rfl) (by kernel_rfl) (by kernel_rfl) (fun _ _ _ h => h) (Or.inl ⟨by rfl, ?_⟩) (by assumption) ?_
      rotate_left
      · (intro w hSw; (try dsimp only at hSw); (try simp only [List.getElem_toArray, List.getElem_cons_zero, List.getElem_cons_succ]); go_simp; (try with_reducible rfl))
      (try simp only [Act.put, List.setIfInBounds_toArray, List.set_cons_zero, List.set_cons_succ, List.getElem_toArray, List.getElem_cons_zero, List.getElem_cons_succ])
      refine wpAnyH_take (i := 4) (v := ?_) rfl (by kernel_rfl) (by kernel_rfl) (by kernel_rfl) (fun _ _ _ h => h) (Or.inl ⟨by rfl, ?_⟩) (by assumption) ?_
      rotate_left
      · (intro w hSw; (try dsimp only at hSw); (try simp only [List.getElem_toArray, List.getElem_cons_zero, List.getElem_cons_succ]); go_simp; (try with_reducible rfl))
      (try simp only [Act.put, List.setIfInBounds_toArray, List.set_cons_zero, List.set_cons_succ, List.getElem_toArray, List.getElem_cons_zero, List.getElem_cons_succ])
      refine wpAnyH_take (i := 6) (v := ?_) rfl (by kernel_rfl) (by kernel_rfl) (by kernel_rfl) (fun _ _ _ h => h) (Or.inl ⟨by rfl, ?_⟩) (by assumption) ?_
      rotate_left
      · (intro w hSw; (try dsimp only at hSw); (try simp only [List.getElem_toArray, List.getElem_cons_zero, List.getElem_cons_succ]); go_simp; (try with_reducible rfl))
      (try simp only [Act.put, List.setIfInBounds_toArray, List.set_cons_zero, List.set_cons_succ, List.getElem_toArray, List.getElem_cons_zero, List.getElem_cons_succ])
      refine wpAnyH_take (i := 7) (v := ?_) rfl (by kernel_rfl) (by kernel_rfl) (by kernel_rfl) (fun _ _ _ h => h) (Or.inl ⟨by rfl, ?_⟩) (by assumption) ?_
      rotate_left
      · (intro w hSw; (try dsimp only at hSw); (try simp only [List.getElem_toArray, List.getElem_cons_zero, List.getElem_cons_succ]); go_simp; (try with_reducible rfl))
      (try simp only [Act.put, List.setIfInBounds_toArray, List.set_cons_zero, List.set_cons_succ, List.getElem_toArray, List.getElem_cons_zero, List.getElem_cons_succ])
      refine wpAnyH_take (i := 8) (v := ?_) rfl (by kernel_rfl) (by kernel_rfl) (by kernel_rfl) (fun _ _ _ h => h) (Or.inl ⟨by rfl, ?_⟩) (by assumption) ?_
      rotate_left
      · (intro w hSw; (try dsimp only at hSw); (try simp only [List.getElem_toArray, List.getElem_cons_zero, List.getElem_cons_succ]); go_simp; (try with_reducible rfl))
      (try simp only [Act.put, List.setIfInBounds_toArray, List.set_cons_zero, List.set_cons_succ, List.getElem_toArray, List.getElem_cons_zero, List.getElem_cons_succ])
      refine wpAnyH_ready (rs := [5, 9]) (by kernel_rfl) (by simp) ?_
      refine AllReadyH.cons (i := 5) rfl (fun K hK => ?_) (AllReadyH.cons (i := 9) rfl (fun K hK => ?_) AllReadyH.nil)
      (try dsimp only [List.getElem_toArray, List.getElem_cons_zero, List.getElem_cons_succ])
      go_simp
      refine hK.out _ _ ?_ (fun hHeld => ?_)
      · (try dsimp only)
        first | go_keep | (refine ⟨?_, ?_, ?_, ?_⟩ <;> first | assumption | go_keep | (rw [World.cell?_setCell_other _ _ _ _ (by simp <;> omega)]; assumption))
      clear hK K
      (try simp only [Act.put, List.setIfInBounds_toArray, List.set_cons_zero, List.set_cons_succ, List.getElem_toArray, List.getElem_cons_zero, List.getElem_cons_succ])
      refine wpAnyH_ready (rs := [9]) (by kernel_rfl) (by simp) ?_
      refine AllReadyH.cons (i := 9) rfl (fun K hK => ?_) AllReadyH.nil
      (try dsimp only [List.getElem_toArray, List.getElem_cons_zero, List.getElem_cons_succ])
      go_simp
      refine hK.out _ _ ?_ (fun hHeld => ?_)
      · (try dsimp only)
        first | go_keep | (refine ⟨?_, ?_, ?_, ?_⟩ <;> first | assumption | go_keep | (rw [World.cell?_setCell_other _ _ _ _ (by simp <;> omega)]; assumption))
      clear hK K
      (try simp only [Act.put, List.setIfInBounds_toArray, List.set_cons_zero, List.set_cons_succ, List.getElem_toArray, List.getElem_cons_zero, List.getElem_cons_succ])
      refine wpAnyH_ready (rs := [10]) (by kernel_rfl) (by simp) ?_
      refine AllReadyH.cons (i := 10) rfl (fun K hK => ?_) AllReadyH.nil
      (refine step_append_lies _ (by rfl) _ _ _ (by rfl) (w.heap.size + 2) 112 i0 _ 5 40 Try.underlying110 hi hz0 hz1 hz2 rfl (by omega) (.slice ao (row (arms a b c L k) (k / 3)).length cp) (row (arms a b c L k) (k / 3)).length (av (row (arms a b c L k) (k / 3))) (by rfl) (owned_later OW1.out (by repeat (first | (with_reducible exact Below.refl _ _) | (with_reducible refine Below.setCell ?_ ?_ _) | (with_reducible refine Below.drew ?_) | (with_reducible refine Below.alloc ?_ ?_ _) | omega | (simp <;> omega)))) ⟨W4.heap.size, 0, none⟩ 1 1 [vi y, vi v.a, vi v.b, vi v.c, vi v.d] (by rfl) (by rfl) (five_news (by rfl) (by simp [go_sem, vi]) (by simp [go_sem, vi]) (by simp [go_sem, vi]) (by simp [go_sem, vi]) (by simp [go_sem, vi])) (by rw [← HA1.out]; exact a5_ones _) (by omega) (by unfold maxLen; omega) (by omega) (by simp; omega) (W4.heap.size + 1) (by simp) ?_; intro g6 k6 w6 hown6 hgrow6 hat6 hlt6; have XB := (X4.out.later (show Below W4.heap.size W4 _ by repeat (first | (with_reducible exact Below.refl _ _) | (with_reducible refine Below.setCell ?_ ?_ _) | (with_reducible refine Below.drew ?_) | (with_reducible refine Below.alloc ?_ ?_ _) | omega | (simp <;> omega)))).grown hgrow6 NQ.out; have xx0 := XB.at (i := 0) (x := v.a) rfl; have xx1 := XB.at (i := 1) (x := v.b) rfl; have xx2 := XB.at (i := 2) (x := v.c) rfl; have xx3 := XB.at (i := 3) (x := v.d) rfl; have y0 := hgrow6.cell (((show Below W4.heap.size W4 _ by repeat (first | (with_reducible exact Below.refl _ _) | (with_reducible refine Below.setCell ?_ ?_ _) | (with_reducible refine Below.drew ?_) | (with_reducible refine Below.alloc ?_ ?_ _) | omega | (simp <;> omega))).cell (p := ⟨w.heap.size + 1, k / 3, none⟩) lg).trans t0) NG.out; have y1 := (World.frozen?_of_block (a := ⟨w.heap.size + 1, k / 3, none⟩) (hgrow6.block (w.heap.size + 1) (by simp; omega) NG.out)).trans (((show Below W4.heap.size W4 _ by repeat (first | (with_reducible exact Below.refl _ _) | (with_reducible refine Below.setCell ?_ ?_ _) | (with_reducible refine Below.drew ?_) | (with_reducible refine Below.alloc ?_ ?_ _) | omega | (simp <;> omega))).frozen (p := ⟨w.heap.size + 1, k / 3, none⟩) lg).trans t1))
      refine hK.out _ _ ?_ (fun hHeld => ?_)
      · (try dsimp only)
        first | go_keep | (refine ⟨?_, ?_, ?_, ?_⟩ <;> first | assumption | go_keep | (rw [World.cell?_setCell_other _ _ _ _ (by simp <;> omega)]; assumption))
      clear hK K
      (try simp only [Act.put, List.setIfInBounds_toArray, List.set_cons_zero, List.set_cons_succ, List.getElem_toArray, List.getElem_cons_zero, List.getElem_cons_succ])
      refine wpAnyH_take (i := 11) (v := ?_) rfl (by kernel_rfl) (by kernel_rfl) (by kernel_rfl) (fun _ _ _ h => h) (Or.inl ⟨by rfl, ?_⟩) (by assumption) ?_
      rotate_left
      · (intro w hSw; (try dsimp only at hSw); (try simp only [List.getElem_toArray, List.getElem_cons_zero, List.getElem_cons_succ]); go_simp; (try with_reducible rfl))
      (try simp only [Act.put, List.setIfInBounds_toArray, List.set_cons_zero, List.set_cons_succ, List.getElem_toArray, List.getElem_cons_zero, List.getElem_cons_succ])
      refine wpAnyH_ready (rs := [12]) (by kernel_rfl) (by simp) ?_
      refine AllReadyH.cons (i := 12) rfl (fun K hK => ?_) AllReadyH.nil
      (try dsimp only [List.getElem_toArray, List.getElem_cons_zero, List.getElem_cons_succ])
      go_simp
      refine hK.out _ _ ?_ (fun hHeld => ?_)
      · (try dsimp only)
        first | go_keep | (refine ⟨?_, ?_, ?_, ?_⟩ <;> first | assumption | go_keep | (rw [World.cell?_setCell_other _ _ _ _ (by simp <;> omega)]; assumption))
      clear hK K
      (try simp only [Act.put, List.setIfInBounds_toArray, List.set_cons_zero, List.set_cons_succ, List.getElem_toArray, List.getElem_cons_zero, List.getElem_cons_succ])
      refine wpAnyH_done (by kernel_rfl) ?_ _
      refine NoPanic.normal ?_
      rotate_left
      (try dsimp only [List.getElem_toArray, List.getElem_cons_zero, List.getElem_cons_succ])
      go_simp
      refine hK.out _ _ ?_ (fun hHeld => ?_)
      · (try dsimp only)
        first | go_keep | (refine ⟨?_, ?_, ?_, ?_⟩ <;> first | assumption | go_keep | (rw [World.cell?_setCell_other _ _ _ _ (by simp <;> omega)]; assumption))
      clear hK K
      (try simp only [Act.put, List.setIfInBounds_toArray, List.set_cons_zero, List.set_cons_succ, List.getElem_toArray, List.getElem_cons_zero, List.getElem_cons_succ])
      refine wpAnyH_ready (rs := [5]) (by kernel_rfl) (by simp) ?_
      refine AllReadyH.cons (i := 5) rfl (fun K hK => ?_) AllReadyH.nil
      (try dsimp only [List.getElem_toArray, List.getElem_cons_zero, List.getElem_cons_succ])
      go_simp
      refine hK.out _ _ ?_ (fun hHeld => ?_)
      · (try dsimp only)
        first | go_keep | (refine ⟨?_, ?_, ?_, ?_⟩ <;> first | assumption | go_keep | (rw [World.cell?_setCell_other _ _ _ _ (by simp <;> omega)]; assumption))
      clear hK K
      (try simp only [Act.put, List.setIfInBounds_toArray, List.set_cons_zero, List.set_cons_succ, List.getElem_toArray, List.getElem_cons_zero, List.getElem_cons_succ])
      refine wpAnyH_ready (rs := [10]) (by kernel_rfl) (by simp) ?_
      refine AllReadyH.cons (i := 10) rfl (fun K hK => ?_) AllReadyH.nil
      (refine step_append_lies _ (by rfl) _ _ _ (by rfl) (w.heap.size + 2) 112 i0 _ 5 40 Try.underlying110 hi hz0 hz1 hz2 rfl (by omega) (.slice ao (row (arms a b c L k) (k / 3)).length cp) (row (arms a b c L k) (k / 3)).length (av (row (arms a b c L k) (k / 3))) (by rfl) (owned_later OW1.out (by repeat (first | (with_reducible exact Below.refl _ _) | (with_reducible refine Below.setCell ?_ ?_ _) | (with_reducible refine Below.drew ?_) | (with_reducible refine Below.alloc ?_ ?_ _) | omega | (simp <;> omega)))) ⟨W4.heap.size, 0, none⟩ 1 1 [vi y, vi v.a, vi v.b, vi v.c, vi v.d] (by rfl) (by rfl) (five_news (by rfl) (by simp [go_sem, vi]) (by simp [go_sem, vi]) (by simp [go_sem, vi]) (by simp [go_sem, vi]) (by simp [go_sem, vi])) (by rw [← HA1.out]; exact a5_ones _) (by omega) (by unfold maxLen; omega) (by omega) (by simp; omega) (W4.heap.size + 1) (by simp) ?_; intro g6 k6 w6 hown6 hgrow6 hat6 hlt6; have XB := (X4.out.later (show Below W4.heap.size W4 _ by repeat (first | (with_reducible exact Below.refl _ _) | (with_reducible refine Below.setCell ?_ ?_ _) | (with_reducible refine Below.drew ?_) | (with_reducible refine Below.alloc ?_ ?_ _) | omega | (simp <;> omega)))).grown hgrow6 NQ.out; have xx0 := XB.at (i := 0) (x := v.a) rfl; have xx1 := XB.at (i := 1) (x := v.b) rfl; have xx2 := XB.at (i := 2) (x := v.c) rfl; have xx3 := XB.at (i := 3) (x := v.d) rfl; have y0 := hgrow6.cell (((show Below W4.heap.size W4 _ by repeat (first | (with_reducible exact Below.refl _ _) | (with_reducible refine Below.setCell ?_ ?_ _) | (with_reducible refine Below.drew ?_) | (with_reducible refine Below.alloc ?_ ?_ _) | omega | (simp <;> omega))).cell (p := ⟨w.heap.size + 1, k / 3, none⟩) lg).trans t0) NG.out; have y1 := (World.frozen?_of_block (a := ⟨w.heap.size + 1, k / 3, none⟩) (hgrow6.block (w.heap.size + 1) (by simp; omega) NG.out)).trans (((show Below W4.heap.size W4 _ by repeat (first | (with_reducible exact Below.refl _ _) | (with_reducible refine Below.setCell ?_ ?_ _) | (with_reducible refine Below.drew ?_) | (with_reducible refine Below.alloc ?_ ?_ _) | omega | (simp <;> omega))).frozen (p := ⟨w.heap.size + 1, k / 3, none⟩) lg).trans t1))
      refine hK.out _ _ ?_ (fun hHeld => ?_)
      · (try dsimp only)
        first | go_keep | (refine ⟨?_, ?_, ?_, ?_⟩ <;> first | assumption | go_keep | (rw [World.cell?_setCell_other _ _ _ _ (by simp <;> omega)]; assumption))
      clear hK K
      (try simp only [Act.put, List.setIfInBounds_toArray, List.set_cons_zero, List.set_cons_succ, List.getElem_toArray, List.getElem_cons_zero, List.getElem_cons_succ])
      refine wpAnyH_take (i := 11) (v := ?_) rfl (by kernel_rfl) (by kernel_rfl) (by kernel_rfl) (fun _ _ _ h => h) (Or.inl ⟨by rfl, ?_⟩) (by assumption) ?_
      rotate_left
      · (intro w hSw; (try dsimp only at hSw); (try simp only [List.getElem_toArray, List.getElem_cons_zero, List.getElem_cons_succ]); go_simp; (try with_reducible rfl))
      (try simp only [Act.put, List.setIfInBounds_toArray, List.set_cons_zero, List.set_cons_succ, List.getElem_toArray, List.getElem_cons_zero, List.getElem_cons_succ])
      refine wpAnyH_ready (rs := [12]) (by kernel_rfl) (by simp) ?_
      refine AllReadyH.cons (i := 12) rfl (fun K hK => ?_) AllReadyH.nil
      (try dsimp only [List.getElem_toArray, List.getElem_cons_zero, List.getElem_cons_succ])
      go_simp
      refine hK.out _ _ ?_ (fun hHeld => ?_)
      · (try dsimp only)
        first | go_keep | (refine ⟨?_, ?_, ?_, ?_⟩ <;> first | assumption | go_keep | (rw [World.cell?_setCell_other _ _ _ _ (by simp <;> omega)]; assumption))
      clear hK K
      (try simp only [Act.put, List.setIfInBounds_toArray, List.set_cons_zero, List.set_cons_succ, List.getElem_toArray, List.getElem_cons_zero, List.getElem_cons_succ])
      refine wpAnyH_done (by kernel_rfl) ?_ _
      refine NoPanic.normal ?_
      all_goals
        have hgv := hgrow6
        have hav := hat6
        rw [← HV.out] at hgv hav
        rw [← HA1.out] at hown6
        have P5 := (P4.out.later (show Below W4.heap.size W4 _ by repeat (first | (with_reducible exact Below.refl _ _) | (with_reducible refine Below.setCell ?_ ?_ _) | (with_reducible refine Below.drew ?_) | (with_reducible refine Below.alloc ?_ ?_ _) | omega | (simp <;> omega)))).push (x := ⟨k / 3, y, smS σ (tw u)⟩) hs0 hown6 hgv (W4.heap.size + 1) (by simp) hav
        have hru := row_upd (arms a b c L k) ⟨k / 3, y, smS σ (tw u)⟩
        dsimp only at hru
        rw [← hru] at P5
        have hg6q : g6 ≠ qb := fun e => by
          rcases hav with h | h
          · exact OF.out (k / 3) hs0 (by rw [h, e])
          · omega
        have O5 : ∀ t, t < n → (upd vs (k / 3) (.slice (some ⟨g6, 0, none⟩) ((row (arms a b c L k) (k / 3)).length + 1) k6) t).ownBlock ≠ some qb := fun t ht => by
          by_cases he : t = k / 3
          · subst he; rw [upd_same]; simp [Value.ownBlock]; exact hg6q
          · rw [upd_other _ _ he]; exact OF.out t ht
        have F5 := ((F4.out.later (show Below W4.heap.size W4 _ by repeat (first | (with_reducible exact Below.refl _ _) | (with_reducible refine Below.setCell ?_ ?_ _) | (with_reducible refine Below.drew ?_) | (with_reducible refine Below.alloc ?_ ?_ _) | omega | (simp <;> omega)))).grown hgrow6 (fun e => by have := owned_from OW1.out _ e.symm; omega)).grown (grown_setCell w6 ⟨w.heap.size + 1, k / 3, none⟩ (.slice (some ⟨g6, 0, none⟩) ((row (arms a b c L k) (k / 3)).length + 1) k6)) (by simp)
        have X5 := XB.other (b := w.heap.size + 1) (o := k / 3) (v := .slice (some ⟨g6, 0, none⟩) ((row (arms a b c L k) (k / 3)).length + 1) k6) q1
        have B5 := ((B4.out.trans ((show Below W4.heap.size W4 _ by repeat (first | (with_reducible exact Below.refl _ _) | (with_reducible refine Below.setCell ?_ ?_ _) | (with_reducible refine Below.drew ?_) | (with_reducible refine Below.alloc ?_ ?_ _) | omega | (simp <;> omega))) |>.mono B4.out.size)).grown hgrow6 (by simp; have := B4.out.size; omega) (fun j hj => by have := owned_from OW1.out j hj; omega)).grown (grown_setCell w6 ⟨w.heap.size + 1, k / 3, none⟩ (.slice (some ⟨g6, 0, none⟩) ((row (arms a b c L k) (k / 3)).length + 1) k6)) (by have := B4.out.size; have := hgrow6.size; simp at this; omega) (fun j hj => by simp at hj; omega)
        have HP5 := Lib.hid P5
        have HO5 := Lib.hid O5
        have HF5 := Lib.hid F5
        have HX5 := Lib.hid X5
        have HB5 := Lib.hid B5
        clear P5 O5 F5 X5 B5 hgv hav hru hg6q xx0 xx1 xx2 xx3 XB y0 y1 hown6 hgrow6 hat6 hlt6 x0 x1 x2 x3 t0 t1 lq lg n1
        generalize w6.setCell ⟨w.heap.size + 1, k / 3, none⟩ (.slice (some ⟨g6, 0, none⟩) ((row (arms a b c L k) (k / 3)).length + 1) k6) = W5 at *
        generalize upd vs (k / 3) (.slice (some ⟨g6, 0, none⟩) ((row (arms a b c L k) (k / 3)).length + 1) k6) = vs1 at *
        have hrl2 := row_len (arms a b c L k ++ [⟨k / 3, y, smS σ (tw u)⟩]) y
        rw [List.length_append, arms_len, List.length_cons, List.length_nil] at hrl2
        have x0 := HX5.out.at (i := 0) (x := v.a) rfl
        have x1 := HX5.out.at (i := 1) (x := v.b) rfl
        have x2 := HX5.out.at (i := 2) (x := v.c) rfl
        have x3 := HX5.out.at (i := 3) (x := v.d) rfl
        have lq := HX5.out.lt
        have t0 := HP5.out.cell y hyn
        have t1 := HP5.out.free y
        have lg := HP5.out.lt
        have own1 := HP5.out.own y hyn
        obtain ⟨ao1, cp1, hv1, -⟩ := HP5.out.form hyn
        rw [hv1] at t0 own1
        have HV1 := Lib.hid hv1
        have OW2 := Lib.hid own1
        generalize arms a b c L k ++ [⟨k / 3, y, smS σ (tw u)⟩] = A1 at *
        have NQ1 := Lib.hid (show some qb ≠ (Value.slice ao1 (row A1 y).length cp1).ownBlock from fun e => HO5.out y hyn (by rw [hv1]; exact e.symm))
        have NG1 := Lib.hid (show some (w.heap.size + 1) ≠ (Value.slice ao1 (row A1 y).length cp1).ownBlock from fun e => HP5.out.far y hyn (by rw [hv1]; exact e.symm))
        clear hv1 own1
        go_wp2
        refine wp_region_noPanic ?_
        refine wp_region_held_drew (S := (fun w' => w'.cell? ⟨qb, 0, none⟩ = some (.int .i64 v.a) ∧ w'.cell? ⟨qb, 1, none⟩ = some (.int .i64 v.b) ∧ w'.cell? ⟨qb, 2, none⟩ = some (.int .i64 v.c) ∧ w'.cell? ⟨qb, 3, none⟩ = some (.int .i64 v.d))) (by kernel_rfl) ?_ (fun hHeld => ?_)
        · (try dsimp only)
          first | go_keep | (refine ⟨?_, ?_, ?_, ?_⟩ <;> first | assumption | go_keep | (rw [World.cell?_setCell_other _ _ _ _ (by simp <;> omega)]; assumption))
        refine wpAnyH_take (i := 0) (v := ?_) rfl (by kernel_rfl) (by kernel_rfl) (by kernel_rfl) (fun _ _ _ h => h) (Or.inl ⟨by rfl, ?_⟩) (by assumption) ?_
        rotate_left
        · (intro w hSw; (try dsimp only at hSw); (try simp only [List.getElem_toArray, List.getElem_cons_zero, List.getElem_cons_succ]); go_simp; (try with_reducible rfl))
        (try simp only [Act.put, List.setIfInBounds_toArray, List.set_cons_zero, List.set_cons_succ, List.getElem_toArray, List.getElem_cons_zero, List.getElem_cons_succ])
        refine wpAnyH_take (i := 1) (v := ?_) rfl (by kernel_rfl) (by kernel_rfl) (by kernel_rfl) (fun _ _ _ h => h) (Or.inl ⟨by rfl, ?_⟩) (by assumption) ?_
        rotate_left
        · (intro w hSw; (try dsimp only at hSw); (try simp only [List.getElem_toArray, List.getElem_cons_zero, List.getElem_cons_succ]); go_simp; (try with_reducible rfl))
        (try simp only [Act.put, List.setIfInBounds_toArray, List.set_cons_zero, List.set_cons_succ, List.getElem_toArray, List.getElem_cons_zero, List.getElem_cons_succ])
        refine wpAnyH_take (i := 2) (v := ?_) rfl (by kernel_rfl) (by kernel_rfl) (by kernel_rfl) (fun _ _ _ h => h) (Or.inl ⟨by rfl, ?_⟩) (by assumption) ?_
        rotate_left
        · (intro w hSw; (try dsimp only at hSw); (try simp only [List.getElem_toArray, List.getElem_cons_zero, List.getElem_cons_succ]); go_simp; (try with_reducible rfl))
        (try simp only [Act.put, List.setIfInBounds_toArray, List.set_cons_zero, List.set_cons_succ, List.getElem_toArray, List.getElem_cons_zero, List.getElem_cons_succ])
        refine wpAnyH_take (i := 3) (v := ?_) rfl (by kernel_rfl) (by kernel_rfl) (by kernel_rfl) (fun _ _ _ h => h) (Or.inl ⟨by rfl, ?_⟩) (by assumption) ?_
        rotate_left
        · (intro w hSw; (try dsimp only at hSw); (try simp only [List.getElem_toArray, List.getElem_cons_zero, List.getElem_cons_succ]); go_simp; (try with_reducible rfl))
        (try simp only [Act.put, List.setIfInBounds_toArray, List.set_cons_zero, List.set_cons_succ, List.getElem_toArray, List.getElem_cons_zero, List.getElem_cons_succ])
        refine wpAnyH_take (i := 4) (v := ?_) rfl (by kernel_rfl) (by kernel_rfl) (by kernel_rfl) (fun _ _ _ h => h) (Or.inl ⟨by rfl, ?_⟩) (by assumption) ?_
        rotate_left
        · (intro w hSw; (try dsimp only at hSw); (try simp only [List.getElem_toArray, List.getElem_cons_zero, List.getElem_cons_succ]); go_simp; (try with_reducible rfl))
        (try simp only [Act.put, List.setIfInBounds_toArray, List.set_cons_zero, List.set_cons_succ, List.getElem_toArray, List.getElem_cons_zero, List.getElem_cons_succ])
        refine wpAnyH_take (i := 6) (v := ?_) rfl (by kernel_rfl) (by kernel_rfl) (by kernel_rfl) (fun _ _ _ h => h) (Or.inl ⟨by rfl, ?_⟩) (by assumption) ?_
        rotate_left
        · (intro w hSw; (try dsimp only at hSw); (try simp only [List.getElem_toArray, List.getElem_cons_zero, List.getElem_cons_succ]); go_simp; (try with_reducible rfl))
        (try simp only [Act.put, List.setIfInBounds_toArray, List.set_cons_zero, List.set_cons_succ, List.getElem_toArray, List.getElem_cons_zero, List.getElem_cons_succ])
        refine wpAnyH_take (i := 7) (v := ?_) rfl (by kernel_rfl) (by kernel_rfl) (by kernel_rfl) (fun _ _ _ h => h) (Or.inl ⟨by rfl, ?_⟩) (by assumption) ?_
        rotate_left
        · (intro w hSw; (try dsimp only at hSw); (try simp only [List.getElem_toArray, List.getElem_cons_zero, List.getElem_cons_succ]); go_simp; (try with_reducible rfl))
        (try simp only [Act.put, List.setIfInBounds_toArray, List.set_cons_zero, List.set_cons_succ, List.getElem_toArray, List.getElem_cons_zero, List.getElem_cons_succ])
        refine wpAnyH_take (i := 8) (v := ?_) rfl (by kernel_rfl) (by kernel_rfl) (by kernel_rfl) (fun _ _ _ h => h) (Or.inl ⟨by rfl, ?_⟩) (by assumption) ?_
        rotate_left
        · (intro w hSw; (try dsimp only at hSw); (try simp only [List.getElem_toArray, List.getElem_cons_zero, List.getElem_cons_succ]); go_simp; (try with_reducible rfl))
        (try simp only [Act.put, List.setIfInBounds_toArray, List.set_cons_zero, List.set_cons_succ, List.getElem_toArray, List.getElem_cons_zero, List.getElem_cons_succ])
        refine wpAnyH_take (i := 9) (v := ?_) rfl (by kernel_rfl) (by kernel_rfl) (by kernel_rfl) (fun _ _ _ h => h) (Or.inl ⟨by rfl, ?_⟩) (by assumption) ?_
        rotate_left
        · (intro w hSw; (try dsimp only at hSw); (try simp only [List.getElem_toArray, List.getElem_cons_zero, List.getElem_cons_succ]); go_simp; (try with_reducible rfl))
        (try simp only [Act.put, List.setIfInBounds_toArray, List.set_cons_zero, List.set_cons_succ, List.getElem_toArray, List.getElem_cons_zero, List.getElem_cons_succ])
        refine wpAnyH_take (i := 10) (v := ?_) rfl (by kernel_rfl) (by kernel_rfl) (by kernel_rfl) (fun _ _ _ h => h) (Or.inl ⟨by rfl, ?_⟩) (by assumption) ?_
        rotate_left
        · (intro w hSw; (try dsimp only at hSw); (try simp only [List.getElem_toArray, List.getElem_cons_zero, List.getElem_cons_succ]); go_simp; (try with_reducible rfl))
        (try simp only [Act.put, List.setIfInBounds_toArray, List.set_cons_zero, List.set_cons_succ, List.getElem_toArray, List.getElem_cons_zero, List.getElem_cons_succ])
        refine wpAnyH_take (i := 11) (v := ?_) rfl (by kernel_rfl) (by kernel_rfl) (by kernel_rfl) (fun _ _ _ h => h) (Or.inl ⟨by rfl, ?_⟩) (by assumption) ?_
        rotate_left
        · (intro w hSw; (try dsimp only at hSw); (try simp only [List.getElem_toArray, List.getElem_cons_zero, List.getElem_cons_succ]); go_simp; (try with_reducible rfl))
        (try simp only [Act.put, List.setIfInBounds_toArray, List.set_cons_zero, List.set_cons_succ, List.getElem_toArray, List.getElem_cons_zero, List.getElem_cons_succ])
        refine wpAnyH_take (i := 12) (v := ?_) rfl (by kernel_rfl) (by kernel_rfl) (by kernel_rfl) (fun _ _ _ h => h) (Or.inl ⟨by rfl, ?_⟩) (by assumption) ?_
        rotate_left
        · (intro w hSw; (try dsimp only at hSw); (try simp only [List.getElem_toArray, List.getElem_cons_zero, List.getElem_cons_succ]); go_simp; (try with_reducible rfl))
        (try simp only [Act.put, List.setIfInBounds_toArray, List.set_cons_zero, List.set_cons_succ, List.getElem_toArray, List.getElem_cons_zero, List.getElem_cons_succ])
        refine wpAnyH_take (i := 13) (v := ?_) rfl (by kernel_rfl) (by kernel_rfl) (by kernel_rfl) (fun _ _ _ h => h) (Or.inl ⟨by rfl, ?_⟩) (by assumption) ?_
        rotate_left
        · (intro w hSw; (try dsimp only at hSw); (try simp only [List.getElem_toArray, List.getElem_cons_zero, List.getElem_cons_succ]); go_simp; (try with_reducible rfl))
        (try simp only [Act.put, List.setIfInBounds_toArray, List.set_cons_zero, List.set_cons_succ, List.getElem_toArray, List.getElem_cons_zero, List.getElem_cons_succ])
        refine wpAnyH_take (i := 14) (v := ?_) rfl (by kernel_rfl) (by kernel_rfl) (by kernel_rfl) (fun _ _ _ h => h) (Or.inl ⟨by rfl, ?_⟩) (by assumption) ?_
        rotate_left
        · (intro w hSw; (try dsimp only at hSw); (try simp only [List.getElem_toArray, List.getElem_cons_zero, List.getElem_cons_succ]); go_simp; (try with_reducible rfl))
        (try simp only [Act.put, List.setIfInBounds_toArray, List.set_cons_zero, List.set_cons_succ, List.getElem_toArray, List.getElem_cons_zero, List.getElem_cons_succ])
        refine wpAnyH_take (i := 15) (v := ?_) rfl (by kernel_rfl) (by kernel_rfl) (by kernel_rfl) (fun _ _ _ h => h) (Or.inl ⟨by rfl, ?_⟩) (by assumption) ?_
        rotate_left
        · (intro w hSw; (try dsimp only at hSw); (try simp only [List.getElem_toArray, List.getElem_cons_zero, List.getElem_cons_succ]); go_simp; (try with_reducible rfl))
        (try simp only [Act.put, List.setIfInBounds_toArray, List.set_cons_zero, List.set_cons_succ, List.getElem_toArray, List.getElem_cons_zero, List.getElem_cons_succ])
        refine wpAnyH_take (i := 16) (v := ?_) rfl (by kernel_rfl) (by kernel_rfl) (by kernel_rfl) (fun _ _ _ h => h) (Or.inl ⟨by rfl, ?_⟩) (by assumption) ?_
        rotate_left
        · (intro w hSw; (try dsimp only at hSw); (try simp only [List.getElem_toArray, List.getElem_cons_zero, List.getElem_cons_succ]); go_simp; (try with_reducible rfl))
        (try simp only [Act.put, List.setIfInBounds_toArray, List.set_cons_zero, List.set_cons_succ, List.getElem_toArray, List.getElem_cons_zero, List.getElem_cons_succ])
        refine wpAnyH_take (i := 17) (v := ?_) rfl (by kernel_rfl) (by kernel_rfl) (by kernel_rfl) (fun _ _ _ h => h) (Or.inl ⟨by rfl, ?_⟩) (by assumption) ?_
        rotate_left
        · (intro w hSw; (try dsimp only at hSw); (try simp only [List.getElem_toArray, List.getElem_cons_zero, List.getElem_cons_succ]); go_simp; (try with_reducible rfl))
        (try simp only [Act.put, List.setIfInBounds_toArray, List.set_cons_zero, List.set_cons_succ, List.getElem_toArray, List.getElem_cons_zero, List.getElem_cons_succ])
        refine wpAnyH_ready (rs := [5, 18]) (by kernel_rfl) (by simp) ?_
        refine AllReadyH.cons (i := 5) rfl (fun K hK => ?_) (AllReadyH.cons (i := 18) rfl (fun K hK => ?_) AllReadyH.nil)
        (try dsimp only [List.getElem_toArray, List.getElem_cons_zero, List.getElem_cons_succ])
        go_simp
        refine hK.out _ _ ?_ (fun hHeld => ?_)
        · (try dsimp only)
          first | go_keep | (refine ⟨?_, ?_, ?_, ?_⟩ <;> first | assumption | go_keep | (rw [World.cell?_setCell_other _ _ _ _ (by simp <;> omega)]; assumption))
        clear hK K
        (try simp only [Act.put, List.setIfInBounds_toArray, List.set_cons_zero, List.set_cons_succ, List.getElem_toArray, List.getElem_cons_zero, List.getElem_cons_succ])
        refine wpAnyH_ready (rs := [18]) (by kernel_rfl) (by simp) ?_
        refine AllReadyH.cons (i := 18) rfl (fun K hK => ?_) AllReadyH.nil
        (try dsimp only [List.getElem_toArray, List.getElem_cons_zero, List.getElem_cons_succ])
        go_simp
        refine hK.out _ _ ?_ (fun hHeld => ?_)
        · (try dsimp only)
          first | go_keep | (refine ⟨?_, ?_, ?_, ?_⟩ <;> first | assumption | go_keep | (rw [World.cell?_setCell_other _ _ _ _ (by simp <;> omega)]; assumption))
        clear hK K
        (try simp only [Act.put, List.setIfInBounds_toArray, List.set_cons_zero, List.set_cons_succ, List.getElem_toArray, List.getElem_cons_zero, List.getElem_cons_succ])
        refine wpAnyH_ready (rs := [19]) (by kernel_rfl) (by simp) ?_
        refine AllReadyH.cons (i := 19) rfl (fun K hK => ?_) AllReadyH.nil
        (refine step_append_lies _ (by rfl) _ _ _ (by rfl) (w.heap.size + 2) 112 i0 _ 5 40 Try.underlying110 hi hz0 hz1 hz2 rfl (by omega) (.slice ao1 (row A1 y).length cp1) (row A1 y).length (av (row A1 y)) (by rfl) (owned_later OW2.out (by repeat (first | (with_reducible exact Below.refl _ _) | (with_reducible refine Below.setCell ?_ ?_ _) | (with_reducible refine Below.drew ?_) | (with_reducible refine Below.alloc ?_ ?_ _) | omega | (simp <;> omega)))) ⟨W5.heap.size, 0, none⟩ 1 1 [vi (k / 3 : Nat), vi fa, vi v.b, vi v.c, vi v.d] (by rfl) (by rfl) (five_news (by rfl) (by simp [go_sem, vi]) (by simp [go_sem, vi, e9]) (by simp [go_sem, vi]) (by simp [go_sem, vi]) (by simp [go_sem, vi])) (by rw [← HA2.out]; exact a5_ones _) (by omega) (by unfold maxLen; omega) (by omega) (by simp; omega) (W5.heap.size + 1) (by simp) ?_; intro g7 k7 w7 hown7 hgrow7 hat7 hlt7; have XB := (HX5.out.later (show Below W5.heap.size W5 _ by repeat (first | (with_reducible exact Below.refl _ _) | (with_reducible refine Below.setCell ?_ ?_ _) | (with_reducible refine Below.drew ?_) | (with_reducible refine Below.alloc ?_ ?_ _) | omega | (simp <;> omega)))).grown hgrow7 NQ1.out; have xx0 := XB.at (i := 0) (x := v.a) rfl; have xx1 := XB.at (i := 1) (x := v.b) rfl; have xx2 := XB.at (i := 2) (x := v.c) rfl; have xx3 := XB.at (i := 3) (x := v.d) rfl; have y0 := hgrow7.cell (((show Below W5.heap.size W5 _ by repeat (first | (with_reducible exact Below.refl _ _) | (with_reducible refine Below.setCell ?_ ?_ _) | (with_reducible refine Below.drew ?_) | (with_reducible refine Below.alloc ?_ ?_ _) | omega | (simp <;> omega))).cell (p := ⟨w.heap.size + 1, y, none⟩) lg).trans t0) NG1.out; have y1 := (World.frozen?_of_block (a := ⟨w.heap.size + 1, y, none⟩) (hgrow7.block (w.heap.size + 1) (by simp; omega) NG1.out)).trans (((show Below W5.heap.size W5 _ by repeat (first | (with_reducible exact Below.refl _ _) | (with_reducible refine Below.setCell ?_ ?_ _) | (with_reducible refine Below.drew ?_) | (with_reducible refine Below.alloc ?_ ?_ _) | omega | (simp <;> omega))).frozen (p := ⟨w.heap.size + 1, y, none⟩) lg).trans t1))
        refine hK.out _ _ ?_ (fun hHeld => ?_)
        · (try dsimp only)
          first | go_keep | (refine ⟨?_, ?_, ?_, ?_⟩ <;> first | assumption | go_keep | (rw [World.cell?_setCell_other _ _ _ _ (by simp <;> omega)]; assumption))
        clear hK K
        (try simp only [Act.put, List.setIfInBounds_toArray, List.set_cons_zero, List.set_cons_succ, List.getElem_toArray, List.getElem_cons_zero, List.getElem_cons_succ])
        refine wpAnyH_take (i := 20) (v := ?_) rfl (by kernel_rfl) (by kernel_rfl) (by kernel_rfl) (fun _ _ _ h => h) (Or.inl ⟨by rfl, ?_⟩) (by assumption) ?_
        rotate_left
        · (intro w hSw; (try dsimp only at hSw); (try simp only [List.getElem_toArray, List.getElem_cons_zero, List.getElem_cons_succ]); go_simp; (try with_reducible rfl))
        (try simp only [Act.put, List.setIfInBounds_toArray, List.set_cons_zero, List.set_cons_succ, List.getElem_toArray, List.getElem_cons_zero, List.getElem_cons_succ])
        refine wpAnyH_ready (rs := [21]) (by kernel_rfl) (by simp) ?_
        refine AllReadyH.cons (i := 21) rfl (fun K hK => ?_) AllReadyH.nil
        (try dsimp only [List.getElem_toArray, List.getElem_cons_zero, List.getElem_cons_succ])
        go_simp
        refine hK.out _ _ ?_ (fun hHeld => ?_)
        · (try dsimp only)
          first | go_keep | (refine ⟨?_, ?_, ?_, ?_⟩ <;> first | assumption | go_keep | (rw [World.cell?_setCell_other _ _ _ _ (by simp <;> omega)]; assumption))
        clear hK K
        (try simp only [Act.put, List.setIfInBounds_toArray, List.set_cons_zero, List.set_cons_succ, List.getElem_toArray, List.getElem_cons_zero, List.getElem_cons_succ])
        refine wpAnyH_done (by kernel_rfl) ?_ _
        refine NoPanic.normal ?_
        rotate_left
        (try dsimp only [List.getElem_toArray, List.getElem_cons_zero, List.getElem_cons_succ])
        go_simp
        refine hK.out _ _ ?_ (fun hHeld => ?_)
        · (try dsimp only)
          first | go_keep | (refine ⟨?_, ?_, ?_, ?_⟩ <;> first | assumption | go_keep | (rw [World.cell?_setCell_other _ _ _ _ (by simp <;> omega)]; assumption))
        clear hK K
        (try simp only [Act.put, List.setIfInBounds_toArray, List.set_cons_zero, List.set_cons_succ, List.getElem_toArray, List.getElem_cons_zero, List.getElem_cons_succ])
        refine wpAnyH_ready (rs := [5]) (by kernel_rfl) (by simp) ?_
        refine AllReadyH.cons (i := 5) rfl (fun K hK => ?_) AllReadyH.nil
        (try dsimp only [List.getElem_toArray, List.getElem_cons_zero, List.getElem_cons_succ])
        go_simp
        refine hK.out _ _ ?_ (fun hHeld => ?_)
        · (try dsimp only)
          first | go_keep | (refine ⟨?_, ?_, ?_, ?_⟩ <;> first | assumption | go_keep | (rw [World.cell?_setCell_other _ _ _ _ (by simp <;> omega)]; assumption))
        clear hK K
        (try simp only [Act.put, List.setIfInBounds_toArray, List.set_cons_zero, List.set_cons_succ, List.getElem_toArray, List.getElem_cons_zero, List.getElem_cons_succ])
        refine wpAnyH_ready (rs := [19]) (by kernel_rfl) (by simp) ?_
        refine AllReadyH.cons (i := 19) rfl (fun K hK => ?_) AllReadyH.nil
        (refine step_append_lies _ (by rfl) _ _ _ (by rfl) (w.heap.size + 2) 112 i0 _ 5 40 Try.underlying110 hi hz0 hz1 hz2 rfl (by omega) (.slice ao1 (row A1 y).length cp1) (row A1 y).length (av (row A1 y)) (by rfl) (owned_later OW2.out (by repeat (first | (with_reducible exact Below.refl _ _) | (with_reducible refine Below.setCell ?_ ?_ _) | (with_reducible refine Below.drew ?_) | (with_reducible refine Below.alloc ?_ ?_ _) | omega | (simp <;> omega)))) ⟨W5.heap.size, 0, none⟩ 1 1 [vi (k / 3 : Nat), vi fa, vi v.b, vi v.c, vi v.d] (by rfl) (by rfl) (five_news (by rfl) (by simp [go_sem, vi]) (by simp [go_sem, vi, e9]) (by simp [go_sem, vi]) (by simp [go_sem, vi]) (by simp [go_sem, vi])) (by rw [← HA2.out]; exact a5_ones _) (by omega) (by unfold maxLen; omega) (by omega) (by simp; omega) (W5.heap.size + 1) (by simp) ?_; intro g7 k7 w7 hown7 hgrow7 hat7 hlt7; have XB := (HX5.out.later (show Below W5.heap.size W5 _ by repeat (first | (with_reducible exact Below.refl _ _) | (with_reducible refine Below.setCell ?_ ?_ _) | (with_reducible refine Below.drew ?_) | (with_reducible refine Below.alloc ?_ ?_ _) | omega | (simp <;> omega)))).grown hgrow7 NQ1.out; have xx0 := XB.at (i := 0) (x := v.a) rfl; have xx1 := XB.at (i := 1) (x := v.b) rfl; have xx2 := XB.at (i := 2) (x := v.c) rfl; have xx3 := XB.at (i := 3) (x := v.d) rfl; have y0 := hgrow7.cell (((show Below W5.heap.size W5 _ by repeat (first | (with_reducible exact Below.refl _ _) | (with_reducible refine Below.setCell ?_ ?_ _) | (with_reducible refine Below.drew ?_) | (with_reducible refine Below.alloc ?_ ?_ _) | omega | (simp <;> omega))).cell (p := ⟨w.heap.size + 1, y, none⟩) lg).trans t0) NG1.out; have y1 := (World.frozen?_of_block (a := ⟨w.heap.size + 1, y, none⟩) (hgrow7.block (w.heap.size + 1) (by simp; omega) NG1.out)).trans (((show Below W5.heap.size W5 _ by repeat (first | (with_reducible exact Below.refl _ _) | (with_reducible refine Below.setCell ?_ ?_ _) | (with_reducible refine Below.drew ?_) | (with_reducible refine Below.alloc ?_ ?_ _) | omega | (simp <;> omega))).frozen (p := ⟨w.heap.size + 1, y, none⟩) lg).trans t1))
        refine hK.out _ _ ?_ (fun hHeld => ?_)
        · (try dsimp only)
          first | go_keep | (refine ⟨?_, ?_, ?_, ?_⟩ <;> first | assumption | go_keep | (rw [World.cell?_setCell_other _ _ _ _ (by simp <;> omega)]; assumption))
        clear hK K
        (try simp only [Act.put, List.setIfInBounds_toArray, List.set_cons_zero, List.set_cons_succ, List.getElem_toArray, List.getElem_cons_zero, List.getElem_cons_succ])
        refine wpAnyH_take (i := 20) (v := ?_) rfl (by kernel_rfl) (by kernel_rfl) (by kernel_rfl) (fun _ _ _ h => h) (Or.inl ⟨by rfl, ?_⟩) (by assumption) ?_
        rotate_left
        · (intro w hSw; (try dsimp only at hSw); (try simp only [List.getElem_toArray, List.getElem_cons_zero, List.getElem_cons_succ]); go_simp; (try with_reducible rfl))
        (try simp only [Act.put, List.setIfInBounds_toArray, List.set_cons_zero, List.set_cons_succ, List.getElem_toArray, List.getElem_cons_zero, List.getElem_cons_succ])
        refine wpAnyH_ready (rs := [21]) (by kernel_rfl) (by simp) ?_
        refine AllReadyH.cons (i := 21) rfl (fun K hK => ?_) AllReadyH.nil
        (try dsimp only [List.getElem_toArray, List.getElem_cons_zero, List.getElem_cons_succ])
        go_simp
        refine hK.out _ _ ?_ (fun hHeld => ?_)
        · (try dsimp only)
          first | go_keep | (refine ⟨?_, ?_, ?_, ?_⟩ <;> first | assumption | go_keep | (rw [World.cell?_setCell_other _ _ _ _ (by simp <;> omega)]; assumption))
        clear hK K
        (try simp only [Act.put, List.setIfInBounds_toArray, List.set_cons_zero, List.set_cons_succ, List.getElem_toArray, List.getElem_cons_zero, List.getElem_cons_succ])
        refine wpAnyH_done (by kernel_rfl) ?_ _
        refine NoPanic.normal ?_
        all_goals
          have hgv := hgrow7
          have hav := hat7
          rw [← HV1.out] at hgv hav
          rw [← HA2.out] at hown7
          have P6 := (HP5.out.later (show Below W5.heap.size W5 _ by repeat (first | (with_reducible exact Below.refl _ _) | (with_reducible refine Below.setCell ?_ ?_ _) | (with_reducible refine Below.drew ?_) | (with_reducible refine Below.alloc ?_ ?_ _) | omega | (simp <;> omega)))).push (x := ⟨y, k / 3, flipS (smS σ (tw u))⟩) hyn hown7 hgv (W5.heap.size + 1) (by simp) hav
          have hru := row_upd A1 ⟨y, k / 3, flipS (smS σ (tw u))⟩
          dsimp only at hru
          rw [← hru, ← HRW.out] at P6
          have F6 := ((HF5.out.later (show Below W5.heap.size W5 _ by repeat (first | (with_reducible exact Below.refl _ _) | (with_reducible refine Below.setCell ?_ ?_ _) | (with_reducible refine Below.drew ?_) | (with_reducible refine Below.alloc ?_ ?_ _) | omega | (simp <;> omega)))).grown hgrow7 (fun e => by have := owned_from OW2.out _ e.symm; omega)).grown (grown_setCell w7 ⟨w.heap.size + 1, y, none⟩ (.slice (some ⟨g7, 0, none⟩) ((row A1 y).length + 1) k7)) (by simp)
          have B6 := ((HB5.out.trans ((show Below W5.heap.size W5 _ by repeat (first | (with_reducible exact Below.refl _ _) | (with_reducible refine Below.setCell ?_ ?_ _) | (with_reducible refine Below.drew ?_) | (with_reducible refine Below.alloc ?_ ?_ _) | omega | (simp <;> omega))) |>.mono HB5.out.size)).grown hgrow7 (by simp; have := HB5.out.size; omega) (fun j hj => by have := owned_from OW2.out j hj; omega)).grown (grown_setCell w7 ⟨w.heap.size + 1, y, none⟩ (.slice (some ⟨g7, 0, none⟩) ((row A1 y).length + 1) k7)) (by have := HB5.out.size; have := hgrow7.size; simp at this; omega) (fun j hj => by simp at hj; omega)
          have HP6 := Lib.hid P6
          have HF6 := Lib.hid F6
          have HB6 := Lib.hid B6
          clear P6 F6 B6 hgv hav hru xx0 xx1 xx2 xx3 XB y0 y1 hown7 hgrow7 hat7 hlt7 x0 x1 x2 x3 t0 t1 lq lg
          go_wp2
          exact ⟨⟨k + 1, _, by omega, by go_num, HF6, HP6, HB6⟩, by simp [intOf]; omega⟩
    · obtain rfl : k = L.length := by omega
      have lg := hH.out.lt
      go_wp2
      go_ret2
      refine ⟨⟨w.heap.size + 1, vs, rfl, ?_, by omega⟩, hb.out⟩
      have hp := hH.out
      exact ⟨hp.cell, fun s hs => owned_base (hp.own s hs) (by omega), hp.far, hp.apart, hp.free, hp.lt⟩
end Go.Proofs.Ytmnlfojcofdaeaa
