/- What a turn proposes for a link, with the weights of the old and of the new unit, as the program finds it.
Conditions: those written at each theorem. -/
import Derived.Test.YtpfhjdmgkckjfaaDoorQRatC5
namespace Go.Proofs.YtpfhjdmgkckjfaaDoor
set_option linter.unusedVariables false
set_option linter.unusedSimpArgs false
set_option maxRecDepth 1000000
open Go.RowKit
open Um Tm Cm

theorem accepts_any (u : Q) (x y d : Int) (r : Bool) (w : World) (h : (d < y ∧ r = true) ∨ (¬ d < y ∧ r = false)) : Calls Tryd.prog 28 #[.agg #[.int .i64 u.a, .int .i64 u.b, .int .i64 u.c, .int .i64 u.d, .int .i64 u.n, .int .i64 x, .int .i64 y], .int .i64 d] w fun e w' => e = .returned (.bool r) ∧ Below w.heap.size w w' := by
  rcases h with ⟨h, rfl⟩ | ⟨h, rfl⟩
  all_goals
    go_enter Tryd.func28, Tryd.ntmps28
    go_wp2
    go_ret
    exact ⟨rfl, ba1⟩
theorem rc_at0 (R : List (Q × Value)) (k : Nat) (x : Q × Value) (hx : R[k]? = some x) (j : Nat) (hj : j < 6) : (R.flatMap rc).toArray[k * 6 + j]? = (rc x)[j]? := by
  rw [List.getElem?_toArray]
  exact flat_get rc 6 (fun _ => rfl) R k x hx j hj
/-- the unit of a row of a table -/
def RowU (A : Array Value) (t : Nat) (u : Q) : Prop := ∀ j v, (uc u)[j]? = some v → A[t * 6 + j]? = some v
theorem rowU_of {a b c l : Int} {L : List Q} {bl off cap : Nat} {ws : List Int} {R : List (Q × Value)} {Bc Bw m k pb po : Nat} {xs : List Value} {w : World} (h : TbR a b c l L bl off cap ws R Bc Bw m k pb po xs w) (t : Nat) (ht : t < 24) : RowU (R.flatMap rc).toArray t (small (t : Int)) := fun j v hv => by
  have hx : R[t]? = some (R[t]'(by rw [h.n]; exact ht)) := List.getElem?_eq_getElem _
  obtain ⟨h1, -⟩ := h.rows t _ hx
  have hj : j < 5 := by
    have := (List.getElem?_eq_some_iff.1 hv).1
    simpa [uc] using this
  rw [rc_at0 R t _ hx j (by omega), rc, h1, List.getElem?_append_left (by simp [uc]; omega)]
  exact hv
theorem RowT.cell {w : World} {m : Nat} {T : TypeId} {A : Array Value} (k : RowT w m T A) {i : Nat} {v : Value} (hv : A[i]? = some v) : w.cell? ⟨m, i, none⟩ = some v := by simp [World.cell?, k.h, hv]
theorem RowT.grown {w w1 : World} {m : Nat} {T : TypeId} {A : Array Value} {row : Option Nat} (k : RowT w m T A) (hg : w.grownBy w1 row) (hne : some m ≠ row) : RowT w1 m T A := ⟨(hg.block m (Array.getElem?_eq_some_iff.1 k.h).1 hne).trans k.h⟩
theorem RowT.lt {w : World} {m : Nat} {T : TypeId} {A : Array Value} (k : RowT w m T A) : m < w.heap.size := (Array.getElem?_eq_some_iff.1 k.h).1
theorem lies_grown5 {w w1 : World} {b off : Nat} {L : List Q} {row : Option Nat} (h : Lies w b off L) (hg : w.grownBy w1 row) (ne : some b ≠ row) : Lies w1 b off L := fun i x hx => by
  obtain ⟨x0, x1, x2, x3, x4⟩ := h i x hx
  exact ⟨hg.cell x0 ne, hg.cell x1 ne, hg.cell x2 ne, hg.cell x3 ne, hg.cell x4 ne⟩
theorem lbox_new {w : World} {b : Nat} {T : TypeId} (h : w.heap[b]? = some (.cells #[.int .i64 0, .int .i64 0, .int .i64 0, .int .i64 0, .int .i64 0] T (0, 0))) : LBox w b [zero] := ⟨fun i z hz => by
  match i, hz with
  | 0, hz => simp at hz; subst hz; exact ⟨by simp [World.cell?, h, zero], by simp [World.cell?, h, zero], by simp [World.cell?, h, zero], by simp [World.cell?, h, zero], by simp [World.cell?, h, zero]⟩
  | n + 1, hz => simp at hz, fun j => by simp [World.frozen?, h], (Array.getElem?_eq_some_iff.1 h).1⟩
set_option maxHeartbeats 12800000 in
theorem proposal_ok (a b c p0 p1 p2 p3 p4 l x : Int) (bl off cap t j m n : Nat) (L : List Q) (w : World) (hm : Lies w bl off L) (hst : StA w) (hF : SmF a b c L) (hWO : WOk [p0, p1, p2, p3, p4]) (hl : l = n) (hn : n < L.length) (hx : x = t) (ht : t < 24) (hj : j < 24) (hlk : L[n]? = some (small j)) (hm24 : m < 24) (hmul : low (mul (small t) (small j)) = small m) : Calls Tryd.prog 27 #[.agg #[.int .i64 a, .int .i64 b, .int .i64 c, .slice (some ⟨bl, off, none⟩) L.length cap], .agg #[.int .i64 p0, .int .i64 p1, .int .i64 p2, .int .i64 p3, .int .i64 p4], .int .i64 l, .int .i64 x] w fun e w' => e = .returned (.tuple #[.agg #[.int .i64 (small m).a, .int .i64 (small m).b, .int .i64 (small m).c, .int .i64 (small m).d, .int .i64 (small m).n, .int .i64 (wprod a b c L [p0, p1, p2, p3, p4] l (small j) (thr a b c l)), .int .i64 (wprod a b c L [p0, p1, p2, p3, p4] l (small m) (thr a b c l))], .int .i64 0]) ∧ Below w.heap.size w w' := by
  have l0 : 0 ≤ l := by omega
  have l1 : l < 3 * (a * b * c) := by have := hF.n; omega
  have c2 := fun (W : World) (k : Lies W bl off L) (hs : StA W) => table2_any a b c l L bl off cap p0 p1 p2 p3 p4 W hF l0 l1 k hs
  have c3 := Lib.hid (fun (R : List (Q × Value)) (Bc Bw m2 k pb po : Nat) (xs : List Value) (W : World) (hT : TbR a b c l L bl off cap [p0, p1, p2, p3, p4] R Bc Bw m2 k pb po xs W) => pair5_any a b c l L R Bc Bw m2 bl off cap k pb po xs p0 p1 p2 p3 p4 W hF l0 l1 hT hWO j m hj hm24)
  have hs1 : Sm (small (j : Int)) := ⟨j, hj, rfl⟩
  have hs2 : Sm (small (m : Int)) := ⟨m, hm24, rfl⟩
  have hs3 : Sm (small (t : Int)) := ⟨t, ht, rfl⟩
  have cN := fun (W : World) => number_ok (small (j : Int)) j true W hs1.v (.inl ⟨j, hj, rfl, fun m' hm' e => by have := small_inj m' (by omega) j hj e; omega, rfl, rfl⟩)
  have cO := fun (W : World) => number_ok (small (m : Int)) m true W hs2.v (.inl ⟨m, hm24, rfl, fun m' hm' e => by have := small_inj m' (by omega) m hm24 e; omega, rfl, rfl⟩)
  have cM := fun (W : World) => mul_good (small (t : Int)) (small (j : Int)) (small (m : Int)) 0 W hs3.v hs1.v (.inl ⟨by rw [hmul]; have := sm_n5 hs2; omega, hmul.symm, rfl⟩)
  have HRU := Lib.hid (fun (R : List (Q × Value)) (Bc Bw m2 k pb po : Nat) (xs : List Value) (W : World) (h : TbR a b c l L bl off cap [p0, p1, p2, p3, p4] R Bc Bw m2 k pb po xs W) => rowU_of h t ht)
  have HLK := Lib.hid hlk
  have H0 := Lib.hid hm
  have S0 := Lib.hid hst
  clear hm hst hlk hF hWO hs1 hs2 hs3 l0 l1 hmul
  subst hl hx
  have i1 : (n : Int) < (L.length : Int) := by omega
  have i2 : (t : Int) < 24 := by omega
  generalize wprod a b c L [p0, p1, p2, p3, p4] (n : Int) (small (j : Int)) (thr a b c (n : Int)) = be at *
  generalize wprod a b c L [p0, p1, p2, p3, p4] (n : Int) (small (m : Int)) (thr a b c (n : Int)) = af at *
  generalize small (j : Int) = u at *
  generalize small (m : Int) = v at *
  generalize small (t : Int) = y at *
  have kc := @Tail.cell_re
  have Z0 : Hid (ABx (((w.alloc (.cells #[.int .i64 a, .int .i64 b, .int .i64 c, .slice (some ⟨bl, off, none⟩) L.length cap] 25)).alloc (.cells #[.int .i64 p0, .int .i64 p1, .int .i64 p2, .int .i64 p3, .int .i64 p4] 26)).alloc (.cells #[.int .i64 0, .int .i64 0, .int .i64 0, .int .i64 0, .int .i64 0, .int .i64 0, .int .i64 0] 77)) (w.heap.size + 1 + 1) 77 (#[.int .i64 0, .int .i64 0, .int .i64 0, .int .i64 0, .int .i64 0, .int .i64 0, .int .i64 0] : Array Value).toList) := Lib.hid (by
    have := ABx.news (w := (w.alloc (.cells #[.int .i64 a, .int .i64 b, .int .i64 c, .slice (some ⟨bl, off, none⟩) L.length cap] 25)).alloc (.cells #[.int .i64 p0, .int .i64 p1, .int .i64 p2, .int .i64 p3, .int .i64 p4] 26)) (T := 77) #[.int .i64 0, .int .i64 0, .int .i64 0, .int .i64 0, .int .i64 0, .int .i64 0, .int .i64 0]
    simpa only [World.size_alloc] using this)
  go_enter Tryd.func27, Tryd.ntmps27
  go_wp2_with (fail)
  refine (c2 _ (H0.out.later ba3) (S0.out.later ba3)).mono ?_
  rintro e w1 ⟨⟨R, Bc, Bw, m2, k, pb, po, xs, rfl, hT⟩, hw1⟩
  have Z1 := Lib.hid (Z0.out.later hw1)
  clear Z0
  have bw1 : Below w.heap.size w w1 := bel3 hw1
  have F1 := Lib.hid (FW.n3a.later hw1)
  have E1 := Lib.hid (C5.n3b.later hw1)
  have H1 := Lib.hid (H0.out.later bw1)
  have S1 := Lib.hid (S0.out.later bw1)
  have HB1 := Lib.hid bw1
  have T1 := Lib.hid hT
  clear hT
  clear hw1 bw1 H0 S0
  clear E1
  clear S1
  have hA144 : (R.flatMap rc).toArray.size = 144 := by rw [List.size_toArray, flat6, T1.out.n]
  have HSZ := Lib.hid (show (Tryd.prog.info? 66).map (·.size) = some (R.flatMap rc).toArray.size by rw [infoRt, hA144])
  have HONE := Lib.hid (rc_one R w1 Bc Bw m2 T1.out.rows)
  have HOLD := Lib.hid (show (Tryd.zeroCells66.toList.toArray).size = (R.flatMap rc).toArray.size by rw [hA144]; simp [zeroRt])
  have HRW := Lib.hid (HRU.out _ _ _ _ _ _ _ _ _ T1.out)
  have c3a := Lib.hid (c3.out R Bc Bw m2 k pb po xs)
  clear hA144 c3 HRU
  generalize (R.flatMap rc).toArray = A at *
  have TZ := Lib.hid (ABx.news (w := w1) (T := 66) Tryd.zeroCells66)
  have nx := t24_below w1 A
  have H2 := Lib.hid (H1.out.later nx)
  have F2 := Lib.hid (F1.out.later nx)
  have T2 := Lib.hid (T1.out.later nx)
  have Z2 := Lib.hid (Z1.out.later nx)
  have HB2 := Lib.hid (HB1.out.trans (nx.mono HB1.out.size))
  have A2 : Hid (RowT _ _ _ _) := Lib.hid ⟨t24_new w1 A⟩
  clear nx HB1 H1 F1 T1 Z1
  go_upto_region 4 with (refine wpList_store_row rfl 66 (.tmp 10) (.tmp 24) rfl w1.heap.size A rfl rfl 66 Tryd.zeroCells66.toList.toArray TZ.out.h HSZ.out HOLD.out HONE.out ?_)
  clear TZ HOLD HONE
  generalize (w1.alloc (.cells Tryd.zeroCells66 66)).setRow w1.heap.size A = w2 at *
  generalize w1.heap.size = xb at *
  go_cut [11, 12] from 11 to 42 (fun s11 s12 wx => ∃ bb : Nat, s11 = .int .i64 0 ∧ s12 = .pointer (some ⟨bb, 0, none⟩) ∧ Hid (LBox wx bb [v]) ∧ Hid (FW wx w.heap.size a b c (.slice (some ⟨bl, off, none⟩) L.length cap)) ∧ Hid (ABx wx (w.heap.size + 1 + 1) 77 (#[.int .i64 0, .int .i64 0, .int .i64 0, .int .i64 0, .int .i64 0, .int .i64 0, .int .i64 0] : Array Value).toList) ∧ Hid (RowT wx xb 66 A) ∧ Hid (Lies wx bl off L) ∧ Hid (TbR a b c n L bl off cap [p0, p1, p2, p3, p4] R Bc Bw m2 k pb po xs wx) ∧ Hid (Below w.heap.size w wx) ∧ w.heap.size + 1 + 1 < bb)
  case first =>
    obtain ⟨f0, f1, f2, s0, ff, fl⟩ := F2.out
    obtain ⟨g0, g1, g2, g3, g4⟩ := H2.out.atP HLK.out
    have r0 : w2.cell? ⟨xb, t * 6, none⟩ = some (.int .i64 y.a) := A2.out.cell (HRW.out 0 _ rfl)
    have r1 : w2.cell? ⟨xb, t * 6 + 1, none⟩ = some (.int .i64 y.b) := A2.out.cell (HRW.out 1 _ rfl)
    have r2 : w2.cell? ⟨xb, t * 6 + 2, none⟩ = some (.int .i64 y.c) := A2.out.cell (HRW.out 2 _ rfl)
    have r3 : w2.cell? ⟨xb, t * 6 + 3, none⟩ = some (.int .i64 y.d) := A2.out.cell (HRW.out 3 _ rfl)
    have r4 : w2.cell? ⟨xb, t * 6 + 4, none⟩ = some (.int .i64 y.n) := A2.out.cell (HRW.out 4 _ rfl)
    have K5 : Hid (∀ w' : World, Below w2.heap.size w2 w' → (w'.cell? ⟨w.heap.size, 3, none⟩ = some (.slice (some ⟨bl, off, none⟩) L.length cap) ∧ w'.cell? ⟨xb, t * 6, none⟩ = some (.int .i64 y.a) ∧ w'.cell? ⟨xb, t * 6 + 1, none⟩ = some (.int .i64 y.b) ∧ w'.cell? ⟨xb, t * 6 + 2, none⟩ = some (.int .i64 y.c) ∧ w'.cell? ⟨xb, t * 6 + 3, none⟩ = some (.int .i64 y.d) ∧ w'.cell? ⟨xb, t * 6 + 4, none⟩ = some (.int .i64 y.n) ∧ w'.cell? ⟨bl, off + n * 5, none⟩ = some (.int .i64 u.a) ∧ w'.cell? ⟨bl, off + n * 5 + 1, none⟩ = some (.int .i64 u.b) ∧ w'.cell? ⟨bl, off + n * 5 + 2, none⟩ = some (.int .i64 u.c) ∧ w'.cell? ⟨bl, off + n * 5 + 3, none⟩ = some (.int .i64 u.d) ∧ w'.cell? ⟨bl, off + n * 5 + 4, none⟩ = some (.int .i64 u.n))) := Lib.hid (fun w' h => ⟨held_belowG h s0, held_belowG h r0, held_belowG h r1, held_belowG h r2, held_belowG h r3, held_belowG h r4, held_belowG h g0, held_belowG h g1, held_belowG h g2, held_belowG h g3, held_belowG h g4⟩)
    have K6 : Hid (∀ (w' : World) (p : Nat) (v0 v1 v2 v3 v4 : Value), Below w2.heap.size w2 w' → w2.heap.size ≤ p → ((((((w'.setCell ⟨p, 0, none⟩ v0).setCell ⟨p, 1, none⟩ v1).setCell ⟨p, 2, none⟩ v2).setCell ⟨p, 3, none⟩ v3).setCell ⟨p, 4, none⟩ v4).cell? ⟨w.heap.size, 3, none⟩ = some (.slice (some ⟨bl, off, none⟩) L.length cap) ∧ (((((w'.setCell ⟨p, 0, none⟩ v0).setCell ⟨p, 1, none⟩ v1).setCell ⟨p, 2, none⟩ v2).setCell ⟨p, 3, none⟩ v3).setCell ⟨p, 4, none⟩ v4).cell? ⟨xb, t * 6, none⟩ = some (.int .i64 y.a) ∧ (((((w'.setCell ⟨p, 0, none⟩ v0).setCell ⟨p, 1, none⟩ v1).setCell ⟨p, 2, none⟩ v2).setCell ⟨p, 3, none⟩ v3).setCell ⟨p, 4, none⟩ v4).cell? ⟨xb, t * 6 + 1, none⟩ = some (.int .i64 y.b) ∧ (((((w'.setCell ⟨p, 0, none⟩ v0).setCell ⟨p, 1, none⟩ v1).setCell ⟨p, 2, none⟩ v2).setCell ⟨p, 3, none⟩ v3).setCell ⟨p, 4, none⟩ v4).cell? ⟨xb, t * 6 + 2, none⟩ = some (.int .i64 y.c) ∧ (((((w'.setCell ⟨p, 0, none⟩ v0).setCell ⟨p, 1, none⟩ v1).setCell ⟨p, 2, none⟩ v2).setCell ⟨p, 3, none⟩ v3).setCell ⟨p, 4, none⟩ v4).cell? ⟨xb, t * 6 + 3, none⟩ = some (.int .i64 y.d) ∧ (((((w'.setCell ⟨p, 0, none⟩ v0).setCell ⟨p, 1, none⟩ v1).setCell ⟨p, 2, none⟩ v2).setCell ⟨p, 3, none⟩ v3).setCell ⟨p, 4, none⟩ v4).cell? ⟨xb, t * 6 + 4, none⟩ = some (.int .i64 y.n) ∧ (((((w'.setCell ⟨p, 0, none⟩ v0).setCell ⟨p, 1, none⟩ v1).setCell ⟨p, 2, none⟩ v2).setCell ⟨p, 3, none⟩ v3).setCell ⟨p, 4, none⟩ v4).cell? ⟨bl, off + n * 5, none⟩ = some (.int .i64 u.a) ∧ (((((w'.setCell ⟨p, 0, none⟩ v0).setCell ⟨p, 1, none⟩ v1).setCell ⟨p, 2, none⟩ v2).setCell ⟨p, 3, none⟩ v3).setCell ⟨p, 4, none⟩ v4).cell? ⟨bl, off + n * 5 + 1, none⟩ = some (.int .i64 u.b) ∧ (((((w'.setCell ⟨p, 0, none⟩ v0).setCell ⟨p, 1, none⟩ v1).setCell ⟨p, 2, none⟩ v2).setCell ⟨p, 3, none⟩ v3).setCell ⟨p, 4, none⟩ v4).cell? ⟨bl, off + n * 5 + 2, none⟩ = some (.int .i64 u.c) ∧ (((((w'.setCell ⟨p, 0, none⟩ v0).setCell ⟨p, 1, none⟩ v1).setCell ⟨p, 2, none⟩ v2).setCell ⟨p, 3, none⟩ v3).setCell ⟨p, 4, none⟩ v4).cell? ⟨bl, off + n * 5 + 3, none⟩ = some (.int .i64 u.d) ∧ (((((w'.setCell ⟨p, 0, none⟩ v0).setCell ⟨p, 1, none⟩ v1).setCell ⟨p, 2, none⟩ v2).setCell ⟨p, 3, none⟩ v3).setCell ⟨p, 4, none⟩ v4).cell? ⟨bl, off + n * 5 + 4, none⟩ = some (.int .i64 u.n))) := Lib.hid (fun w' p v0 v1 v2 v3 v4 h hp => by
      have g := grown_setCells p [v0, v1, v2, v3, v4] 0 w'
      have ne : ∀ (q i : Nat) (v : Value), w2.cell? ⟨q, i, none⟩ = some v → some q ≠ some p := fun q i v hq e => by have h1 := World.block_lt_of_cell? _ _ hq; have : q = p := Option.some.inj e; have : q < w2.heap.size := h1; omega
      exact ⟨g.cell (held_belowG h s0) (ne _ _ _ s0), g.cell (held_belowG h r0) (ne _ _ _ r0), g.cell (held_belowG h r1) (ne _ _ _ r1), g.cell (held_belowG h r2) (ne _ _ _ r2), g.cell (held_belowG h r3) (ne _ _ _ r3), g.cell (held_belowG h r4) (ne _ _ _ r4), g.cell (held_belowG h g0) (ne _ _ _ g0), g.cell (held_belowG h g1) (ne _ _ _ g1), g.cell (held_belowG h g2) (ne _ _ _ g2), g.cell (held_belowG h g3) (ne _ _ _ g3), g.cell (held_belowG h g4) (ne _ _ _ g4)⟩)
    clear f0 f1 f2 ff fl
    go_wp2_with (fail)
    try simp only [Act.put]
    go_region_held3 (fun w' => w'.cell? ⟨w.heap.size, 3, none⟩ = some (.slice (some ⟨bl, off, none⟩) L.length cap) ∧ w'.cell? ⟨xb, t * 6, none⟩ = some (.int .i64 y.a) ∧ w'.cell? ⟨xb, t * 6 + 1, none⟩ = some (.int .i64 y.b) ∧ w'.cell? ⟨xb, t * 6 + 2, none⟩ = some (.int .i64 y.c) ∧ w'.cell? ⟨xb, t * 6 + 3, none⟩ = some (.int .i64 y.d) ∧ w'.cell? ⟨xb, t * 6 + 4, none⟩ = some (.int .i64 y.n) ∧ w'.cell? ⟨bl, off + n * 5, none⟩ = some (.int .i64 u.a) ∧ w'.cell? ⟨bl, off + n * 5 + 1, none⟩ = some (.int .i64 u.b) ∧ w'.cell? ⟨bl, off + n * 5 + 2, none⟩ = some (.int .i64 u.c) ∧ w'.cell? ⟨bl, off + n * 5 + 3, none⟩ = some (.int .i64 u.d) ∧ w'.cell? ⟨bl, off + n * 5 + 4, none⟩ = some (.int .i64 u.n))
      (first | (with_reducible exact K6.out _ _ _ _ _ _ _ B5 nB) | (with_reducible exact K6.out _ _ _ _ _ _ _ (B5a _) nB) | (with_reducible exact K5.out _ (B5a _)) | (with_reducible exact K5.out _ B5) | (with_reducible exact K5.out _ ba1) | (with_reducible exact K5.out _ (Below.refl _ _)) | go_keep)
      (first
        | ((with_reducible refine (cM _).mono ?_); rintro e z5 ⟨rfl, hw5⟩; have B5 : Below w2.heap.size w2 z5 := belDG5 hw5; have B5a : ∀ o, Below w2.heap.size w2 (z5.alloc o) := (fun o => B5.trans (ba1.mono B5.size)); have nB : w2.heap.size ≤ z5.heap.size := B5.size)
        | ((with_reducible refine (cM _).mono ?_); rintro e z5 ⟨rfl, hw5⟩; have hb5 := belDG5 hw5; have B5 : Below w2.heap.size w2 z5 := bel1 hb5; have nB : w2.heap.size ≤ w2.heap.size := Nat.le_refl _; have hz := (hb5.block w2.heap.size (by simp)).trans alloc_atG; obtain ⟨⟨d0, d1, d2, d3, d4⟩, df, dl⟩ := one_boxI (lbox_new hz)))
    · have LB := Lib.hid (show LBox (z5.alloc (.cells #[.int .i64 v.a, .int .i64 v.b, .int .i64 v.c, .int .i64 v.d, .int .i64 v.n] 44)) z5.heap.size [v] from ⟨fun i z hz => by
        match i, hz with
        | 0, hz => simp at hz; subst hz; exact ⟨by simp [go_sem], by simp [go_sem], by simp [go_sem], by simp [go_sem], by simp [go_sem]⟩
        | n + 1, hz => simp at hz, fun j => by simp [go_sem], by simp⟩)
      have NX := B5a (.cells #[.int .i64 v.a, .int .i64 v.b, .int .i64 v.c, .int .i64 v.d, .int .i64 v.n] 44)
      have hz1 := Z2.out.lt
      go_wp2
      go_meet
      exact ⟨_, rfl, rfl, LB, Lib.hid (F2.out.later NX), Lib.hid (Z2.out.later NX), Lib.hid (A2.out.later NX), Lib.hid (H2.out.later NX), Lib.hid (T2.out.later NX), Lib.hid (HB2.out.trans (NX.mono HB2.out.size)), by omega⟩
    · have e5 : z5.setCells w2.heap.size (0 * 5) (uc v) = ((((z5.setCell ⟨w2.heap.size, 0, none⟩ (.int .i64 v.a)).setCell ⟨w2.heap.size, 1, none⟩ (.int .i64 v.b)).setCell ⟨w2.heap.size, 2, none⟩ (.int .i64 v.c)).setCell ⟨w2.heap.size, 3, none⟩ (.int .i64 v.d)).setCell ⟨w2.heap.size, 4, none⟩ (.int .i64 v.n) := rfl
      have GG := grown_setCells w2.heap.size (uc v) (0 * 5) z5
      have ne : ∀ i : Nat, i < w2.heap.size → some i ≠ some w2.heap.size := fun i hi e => by have := Option.some.inj e; omega
      have BV := Lib.hid ((lbox_new hz).put 0 (by simp) v)
      have FV := Lib.hid ((F2.out.later B5).grown GG (ne _ F2.out.lt))
      have ZV := Lib.hid ((Z2.out.later B5).grown GG (ne _ Z2.out.lt))
      have AV := Lib.hid ((A2.out.later B5).grown GG (ne _ A2.out.lt))
      have HV := Lib.hid (lies_grown5 (H2.out.later B5) GG (ne _ (World.block_lt_of_cell? _ _ (H2.out n _ HLK.out).1)))
      have NX : Below w2.heap.size w2 (z5.setCells w2.heap.size (0 * 5) (uc v)) := B5.grown GG B5.size (fun q e => by cases e; exact Nat.le_refl _)
      have TV := Lib.hid (T2.out.later NX)
      have BW := Lib.hid (HB2.out.trans (NX.mono HB2.out.size))
      have hz1 := Z2.out.lt
      rw [e5] at BV FV ZV AV HV TV BW
      go_wp2
      go_meet
      exact ⟨_, rfl, rfl, BV, FV, ZV, AV, HV, TV, BW, hz1⟩
  case rest =>
  rename World => w3
  obtain ⟨bb, rfl, rfl, B3, F3, Z3, A3, H3, T3, HB3, hbb⟩ := hcut
  clear cM HRW
  clear F2 Z2 A2 H2 T2 HB2
  obtain ⟨f3_0, f3_1, f3_2, f3_3, f3_4, f3_5⟩ := F3.out
  obtain ⟨g0, g1, g2, g3, g4⟩ := H3.out.atP HLK.out
  go_wp2_with (fail)
  refine (cN _).mono ?_
  rintro e w4 ⟨rfl, hw4⟩
  clear f3_0 f3_1 f3_2 f3_3 f3_4 f3_5 g0 g1 g2 g3 g4
  have bw4 : Below w3.heap.size w3 w4 := hw4
  have H4 := Lib.hid (H3.out.later bw4)
  have F4 := Lib.hid (F3.out.later bw4)
  have T4 := Lib.hid (T3.out.later bw4)
  have Z4 := Lib.hid (Z3.out.later bw4)
  have A4 := Lib.hid (A3.out.later bw4)
  have B4 := Lib.hid (B3.out.later bw4)
  have HB4 := Lib.hid (HB3.out.trans (bw4.mono HB3.out.size))
  clear hw4 bw4 H3 F3 T3 Z3 A3 B3 HB3
  clear F4
  clear H4
  obtain ⟨⟨d0, d1, d2, d3, d4⟩, df, dl⟩ := one_boxI B4.out
  go_wp2_with (fail)
  refine (cO _).mono ?_
  rintro e w5 ⟨rfl, hw5⟩
  clear d0 d1 d2 d3 d4 df dl
  have bw5 : Below w4.heap.size w4 w5 := hw5
  have T5 := Lib.hid (T4.out.later bw5)
  have Z5 := Lib.hid (Z4.out.later bw5)
  have A5 := Lib.hid (A4.out.later bw5)
  have B5 := Lib.hid (B4.out.later bw5)
  have HB5 := Lib.hid (HB4.out.trans (bw5.mono HB4.out.size))
  clear hw5 bw5 T4 Z4 A4 B4 HB4
  go_wp2_with ((refine wpList_load_row rfl 66 (.tmp 10) rfl _ rfl 66 A (0, 0) _ A5.out.h Tryd.underlying66 rfl HSZ.out ?_))
  refine (c3a.out _ (T5.out)).mono ?_
  rintro e w6 ⟨rfl, hw6⟩
  have bw6 : Below w5.heap.size w5 w6 := hw6
  have T6 := Lib.hid (T5.out.later bw6)
  have Z6 := Lib.hid (Z5.out.later bw6)
  have A6 := Lib.hid (A5.out.later bw6)
  have B6 := Lib.hid (B5.out.later bw6)
  have HB6 := Lib.hid (HB5.out.trans (bw6.mono HB5.out.size))
  clear hw6 bw6 T5 Z5 A5 B5 HB5
  clear T6
  clear A6
  obtain ⟨⟨d0, d1, d2, d3, d4⟩, df, dl⟩ := one_boxI B6.out
  have z0 : w6.cell? ⟨w.heap.size + 1 + 1, 0, none⟩ = some (.int .i64 0) := Z6.out.cell 0
  have z1 : w6.cell? ⟨w.heap.size + 1 + 1, 1, none⟩ = some (.int .i64 0) := Z6.out.cell 1
  have z2 : w6.cell? ⟨w.heap.size + 1 + 1, 2, none⟩ = some (.int .i64 0) := Z6.out.cell 2
  have z3 : w6.cell? ⟨w.heap.size + 1 + 1, 3, none⟩ = some (.int .i64 0) := Z6.out.cell 3
  have z4 : w6.cell? ⟨w.heap.size + 1 + 1, 4, none⟩ = some (.int .i64 0) := Z6.out.cell 4
  have z5 : w6.cell? ⟨w.heap.size + 1 + 1, 5, none⟩ = some (.int .i64 0) := Z6.out.cell 5
  have z6 : w6.cell? ⟨w.heap.size + 1 + 1, 6, none⟩ = some (.int .i64 0) := Z6.out.cell 6
  have zf : ∀ j, w6.frozen? ⟨w.heap.size + 1 + 1, j, none⟩ = false := fun j => Z6.out.free j
  have zl := Z6.out.lt
  have hb := HB6.out
  have nb : ¬ bb = w.heap.size + 1 + 1 := by omega
  have nb2 : ¬ w.heap.size + 1 + 1 = bb := by omega
  go_wp2
  refine bodyPost_ret (v := .tuple #[.agg #[.int .i64 v.a, .int .i64 v.b, .int .i64 v.c, .int .i64 v.d, .int .i64 v.n, .int .i64 be, .int .i64 af], .int .i64 0]) ?_ rfl ⟨rfl, ?_⟩
  · simp [results, Tryd.results27, go_sem, z0, z1, z2, z3, z4, z5, z6, zl]
  · repeat (first | (with_reducible exact Below.refl _ _) | (with_reducible refine Below.setCell ?_ ?_ _) | (with_reducible refine Below.drew ?_) | (with_reducible refine Below.alloc ?_ ?_ _) | (with_reducible refine Below.trans ?_ (Below.mono hb ?_)) | (with_reducible exact hb.size) | omega | (simp <;> omega) | (simp <;> (have s := hb.size; omega)) | (have s0 := hb.size; (try simp at s0); (try simp); omega))
end Go.Proofs.YtpfhjdmgkckjfaaDoor
