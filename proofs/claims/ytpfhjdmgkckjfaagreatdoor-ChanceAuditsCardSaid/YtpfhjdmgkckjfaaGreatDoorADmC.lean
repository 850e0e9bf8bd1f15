/- The move of a link by a heat bath, as the program draws it.
Conditions: those written at the theorem. -/
import Derived.Test.YtpfhjdmgkckjfaaGreatDoorACpdC
namespace Go.Proofs.YtpfhjdmgkckjfaaGreatDoor
set_option linter.unusedVariables false
set_option linter.unusedSimpArgs false
set_option maxRecDepth 1000000
open Go.RowKit
open Um Tm Cm

theorem rowT_grown5 {w w1 : World} {m : Nat} {T : TypeId} {A : Array Value} {row : Option Nat} (k : RowT w m T A) (hg : w.grownBy w1 row) (hne : some m ≠ row) : RowT w1 m T A := ⟨(hg.block m (Array.getElem?_eq_some_iff.1 k.h).1 hne).trans k.h⟩
set_option maxHeartbeats 12800000 in
theorem drawnMove_ok (a b c p0 p1 p2 p3 p4 l s d : Int) (B bl off cap n j v : Nat) (L : List Q) (w : World) (hm : Lies w bl off L) (hst : StA w) (hF : SmF a b c L) (hWO : WOk [p0, p1, p2, p3, p4]) (hl : l = n) (hn : n < L.length) (hs : IsSeed s) (hg : GBox w B s) (hj : j < 24) (hlk : L[n]? = some (small j)) (hW : WL (swW a b c [p0, p1, p2, p3, p4] L n)) (hT : 1 ≤ psum (swW a b c [p0, p1, p2, p3, p4] L n) 24) (hd : d = drw s (psum (swW a b c [p0, p1, p2, p3, p4] L n) 24)) (hv : Ch (swW a b c [p0, p1, p2, p3, p4] L n) d v) :
    Calls Tryz.prog 91 #[.agg #[.int .i64 a, .int .i64 b, .int .i64 c, .slice (some ⟨bl, off, none⟩) L.length cap], .agg #[.int .i64 p0, .int .i64 p1, .int .i64 p2, .int .i64 p3, .int .i64 p4], .int .i64 l, .func (.func 67) #[.pointer (some ⟨B, 0, none⟩)] #[]] w fun e w' => (e = .returned (.tuple #[.agg #[.int .i64 l, .int .i64 j, .int .i64 v, .int .i64 d], .int .i64 0]) ∧ GBox w' B (adv s)) ∧ w.grownBy w' (some B) := by
  have l0 : 0 ≤ l := by omega
  have l1 : l < 3 * (a * b * c) := by have := hF.n; omega
  obtain ⟨hn1, hn4⟩ := thr_some hF.z l0 l1
  have c2 := fun (W : World) (k : Lies W bl off L) (hs : StA W) => table2_any a b c l L bl off cap p0 p1 p2 p3 p4 W hF l0 l1 k hs
  have c3 := Lib.hid (fun (R : List (Q × Value)) (Bc Bw m2 k pb po : Nat) (xs : List Value) (W : World) (hT : TbR a b c l L bl off cap [p0, p1, p2, p3, p4] R Bc Bw m2 k pb po xs W) => weightsOf_any a b c l L R Bc Bw m2 bl off cap k pb po xs (thr a b c l) p0 p1 p2 p3 p4 W hF hT.n hT.rows hT.cb hT.wb hT.li hT.pl hT.xl (fun p hp => by obtain ⟨i, hi⟩ := List.getElem?_of_mem hp; exact thr_rng hi) hn4 hWO)
  have hs1 : Sm (small (j : Int)) := ⟨j, hj, rfl⟩
  have cN := fun (W : World) => number_ok (small (j : Int)) j true W hs1.v (.inl ⟨j, hj, rfl, fun m' hm' e => by have := small_inj m' (by omega) j hj e; omega, rfl, rfl⟩)
  have cS := fun (W : World) => sum5_any (swW a b c [p0, p1, p2, p3, p4] L n) W hW
  have cK := fun (W : World) => chosen5_any (swW a b c [p0, p1, p2, p3, p4] L n) d v W hW hv
  have hps := hW.ps 24 (by omega)
  have cD := fun (W : World) hc hf => below_any B s (psum (swW a b c [p0, p1, p2, p3, p4] L n) 24) W hs hT (by omega) hc hf
  rw [← hd] at cD
  have hA24 := R24.of hW.n
  have hgl := hg.lt
  have HLK := Lib.hid hlk
  have H0 := Lib.hid hm
  have S0 := Lib.hid hst
  have G0 := Lib.hid hg
  subst hl
  have hWE : wsK a b c L [p0, p1, p2, p3, p4] (n : Int) (thr a b c (n : Int)) 24 = swW a b c [p0, p1, p2, p3, p4] L n := rfl
  rw [hWE] at c3
  have S2 := Lib.hid hA24.sz
  have O2 := Lib.hid hA24.ol
  have N2 := Lib.hid hA24.one
  clear hm hst hlk hF hWO hs1 l0 l1 hn1 hn4 hs hg hW hT hd hv hps hA24 hWE
  have i1 : (n : Int) < (L.length : Int) := by omega
  generalize (List.map vi (swW a b c [p0, p1, p2, p3, p4] L n)).toArray = D at *
  generalize psum (swW a b c [p0, p1, p2, p3, p4] L n) 24 = T at *
  generalize small (j : Int) = u at *
  generalize adv s = s' at *
  go_enter Tryz.func91, Tryz.ntmps91
  go_wp2_with (fail)
  refine (c2 _ (H0.out.later ba3) (S0.out.later ba3)).mono ?_
  rintro e w1 ⟨⟨R, Bc, Bw, m2, k, pb, po, xs, rfl, hT⟩, hw1⟩
  have bw1 : Below w.heap.size w w1 := bel3 hw1
  have F1 := Lib.hid (FW.n3a.later hw1)
  have E1 := Lib.hid (C5.n3b.later hw1)
  have Z1 := Lib.hid (C4.n3c.later hw1)
  have H1 := Lib.hid (H0.out.later bw1)
  have S1 := Lib.hid (S0.out.later bw1)
  have G1 := Lib.hid (G0.out.later bw1)
  have HB1 := Lib.hid bw1
  have T1 := Lib.hid hT
  clear hT
  clear hw1 bw1 H0 S0 G0
  clear E1
  clear S1
  have hA144 : (R.flatMap rc).toArray.size = 144 := by rw [List.size_toArray, flat6, T1.out.n]
  have HSZ := Lib.hid (show (Tryz.prog.info? 77).map (·.size) = some (R.flatMap rc).toArray.size by rw [infoRt, hA144])
  have HONE := Lib.hid (rc_one R w1 Bc Bw m2 T1.out.rows)
  have HOLD := Lib.hid (show (Tryz.zeroCells77.toList.toArray).size = (R.flatMap rc).toArray.size by rw [hA144]; simp [zeroRt])
  have c3a := Lib.hid (c3.out R Bc Bw m2 k pb po xs)
  clear hA144 c3
  generalize (R.flatMap rc).toArray = A at *
  have TZ := Lib.hid (ABx.news (w := w1) (T := 77) Tryz.zeroCells77)
  have nx := t24_below w1 A
  have H2 := Lib.hid (H1.out.later nx)
  have G2 := Lib.hid (G1.out.later nx)
  have F2 := Lib.hid (F1.out.later nx)
  have Z2 := Lib.hid (Z1.out.later nx)
  have T2 := Lib.hid (T1.out.later nx)
  have HB2 := Lib.hid (HB1.out.trans (nx.mono HB1.out.size))
  have A2 : Hid (RowT _ _ _ _) := Lib.hid ⟨t24_new w1 A⟩
  clear nx HB1 H1 G1 F1 Z1 T1
  go_wp2_with (first | (refine wpList_store_row rfl 77 (.tmp 10) (.tmp 21) rfl w1.heap.size A rfl rfl 77 Tryz.zeroCells77.toList.toArray TZ.out.h HSZ.out HOLD.out HONE.out ?_) | (refine wpList_load_row rfl 77 (.tmp 10) rfl _ rfl 77 A (0, 0) _ A2.out.h Tryz.underlying77 rfl HSZ.out ?_))
  generalize (w1.alloc (.cells Tryz.zeroCells77 77)).setRow w1.heap.size A = w2 at *
  refine (c3a.out _ (T2.out)).mono ?_
  rintro e w3 ⟨rfl, hw3⟩
  have bw3 : Below w2.heap.size w2 w3 := hw3
  have H3 := Lib.hid (H2.out.later bw3)
  have G3 := Lib.hid (G2.out.later bw3)
  have F3 := Lib.hid (F2.out.later bw3)
  have Z3 := Lib.hid (Z2.out.later bw3)
  have T3 := Lib.hid (T2.out.later bw3)
  have A3 := Lib.hid (A2.out.later bw3)
  have HB3 := Lib.hid (HB2.out.trans (bw3.mono HB2.out.size))
  clear hw3 bw3 H2 G2 F2 Z2 T2 A2 HB2
  clear TZ HOLD HONE c3a HSZ
  clear T3
  clear A3
  have DGE := Lib.hid (show w.heap.size ≤ w3.heap.size from HB3.out.size)
  have TZ := Lib.hid (ABx.news (w := w3) (T := 29) #[.int .i64 0, .int .i64 0, .int .i64 0, .int .i64 0, .int .i64 0, .int .i64 0, .int .i64 0, .int .i64 0, .int .i64 0, .int .i64 0, .int .i64 0, .int .i64 0, .int .i64 0, .int .i64 0, .int .i64 0, .int .i64 0, .int .i64 0, .int .i64 0, .int .i64 0, .int .i64 0, .int .i64 0, .int .i64 0, .int .i64 0, .int .i64 0])
  have nx := r24_below w3 D
  have H4 := Lib.hid (H3.out.later nx)
  have G4 := Lib.hid (G3.out.later nx)
  have F4 := Lib.hid (F3.out.later nx)
  have Z4 := Lib.hid (Z3.out.later nx)
  have HB4 := Lib.hid (HB3.out.trans (nx.mono HB3.out.size))
  have D4 : Hid (RowT _ _ _ _) := Lib.hid ⟨r24_new w3 D⟩
  clear nx HB3 H3 G3 F3 Z3
  obtain ⟨f4_0, f4_1, f4_2, f4_3, f4_4, f4_5⟩ := F4.out
  obtain ⟨g0, g1, g2, g3, g4⟩ := H4.out.atP HLK.out
  go_wp2_with (first | (refine wpList_store_row rfl 29 (.tmp 12) (.tmp 30) rfl w3.heap.size D rfl rfl 29 _ TZ.out.h S2.out O2.out N2.out ?_))
  generalize (w3.alloc (.cells #[.int .i64 0, .int .i64 0, .int .i64 0, .int .i64 0, .int .i64 0, .int .i64 0, .int .i64 0, .int .i64 0, .int .i64 0, .int .i64 0, .int .i64 0, .int .i64 0, .int .i64 0, .int .i64 0, .int .i64 0, .int .i64 0, .int .i64 0, .int .i64 0, .int .i64 0, .int .i64 0, .int .i64 0, .int .i64 0, .int .i64 0, .int .i64 0] 29)).setRow w3.heap.size D = w4 at *
  refine (cN _).mono ?_
  rintro e w5 ⟨rfl, hw5⟩
  clear f4_0 f4_1 f4_2 f4_3 f4_4 f4_5 g0 g1 g2 g3 g4
  have bw5 : Below w4.heap.size w4 w5 := hw5
  have H5 := Lib.hid (H4.out.later bw5)
  have G5 := Lib.hid (G4.out.later bw5)
  have F5 := Lib.hid (F4.out.later bw5)
  have Z5 := Lib.hid (Z4.out.later bw5)
  have D5 := Lib.hid (D4.out.later bw5)
  have HB5 := Lib.hid (HB4.out.trans (bw5.mono HB4.out.size))
  clear hw5 bw5 H4 G4 F4 Z4 D4 HB4
  clear TZ O2 N2
  clear H5
  clear F5
  go_wp2_with (first | (refine wpList_load_row rfl 29 (.tmp 12) rfl _ rfl 29 D (0, 0) _ D5.out.h Tryz.underlying29 rfl S2.out ?_))
  refine (cS _).mono ?_
  rintro e w6 ⟨rfl, hw6⟩
  have bw6 : Below w5.heap.size w5 w6 := hw6
  have G6 := Lib.hid (G5.out.later bw6)
  have Z6 := Lib.hid (Z5.out.later bw6)
  have D6 := Lib.hid (D5.out.later bw6)
  have HB6 := Lib.hid (HB5.out.trans (bw6.mono HB5.out.size))
  clear hw6 bw6 G5 Z5 D5 HB5
  obtain ⟨gc, gf, gl⟩ := G6.out
  go_wp2_with (fail)
  refine (cD _ gc gf).mono ?_
  rintro e wx ⟨rfl, rfl⟩
  have GG := grown_setCell w6 ⟨B, 0, none⟩ (.int .i64 s')
  have ne : ∀ i : Nat, w.heap.size ≤ i → some i ≠ some B := fun i hi e => by have : i = B := Option.some.inj e; omega
  obtain ⟨a0, a1, a2, a3, af, al⟩ := Z6.out
  have nz : some (w.heap.size + 2) ≠ some B := ne _ (by omega)
  have ZX : Hid (C4 (w6.setCell ⟨B, 0, none⟩ (.int .i64 s')) (w.heap.size + 2) (.int .i64 0) (.int .i64 0) (.int .i64 0) (.int .i64 0)) := Lib.hid ⟨GG.cell a0 nz, GG.cell a1 nz, GG.cell a2 nz, GG.cell a3 nz, fun j => (World.frozen?_of_block (a := ⟨_, j, none⟩) (GG.block _ al nz)).trans (af j), Nat.lt_of_lt_of_le al GG.size⟩
  clear a0 a1 a2 a3 af al nz
  have DX := Lib.hid (rowT_grown5 D6.out GG (ne _ DGE.out))
  have GX := Lib.hid (G6.out.set s')
  have WX := Lib.hid (grown_trans (below_grown (row := some B) HB6.out) GG)
  have SX : w.heap.size ≤ (w6.setCell ⟨B, 0, none⟩ (.int .i64 s')).heap.size := WX.out.size
  clear GG gc gf gl Z6 D6 G6 HB6 cD
  generalize w6.setCell ⟨B, 0, none⟩ (.int .i64 s') = X at *
  go_wp2_with (first | (refine wpList_load_row rfl 29 (.tmp 12) rfl _ rfl 29 D (0, 0) _ DX.out.h Tryz.underlying29 rfl S2.out ?_))
  refine (cK _).mono ?_
  rintro e y1 ⟨rfl, hy1⟩
  have WY := Lib.hid (grown_later WX.out (hy1.mono SX))
  have GY := Lib.hid (GX.out.later hy1)
  obtain ⟨z0, z1, z2, z3, zf, zl⟩ := ZX.out.later hy1
  clear hy1 ZX DX GX WX
  have GZ := grown_setCells (w.heap.size + 1 + 1) [.int .i64 n, .int .i64 j, .int .i64 v, .int .i64 d] 0 y1
  have hne : some B ≠ some (w.heap.size + 1 + 1) := (ne _ (by omega)).symm
  have wz : w.grownBy (y1.setCells (w.heap.size + 1 + 1) 0 [.int .i64 n, .int .i64 j, .int .i64 v, .int .i64 d]) (some B) := ⟨GZ.os.trans WY.out.os, GZ.tape.trans WY.out.tape, GZ.output.trans WY.out.output, Nat.le_trans WY.out.size GZ.size, fun i hi hn => (GZ.block i (Nat.lt_of_lt_of_le hi WY.out.size) (fun e => by have : i = w.heap.size + 1 + 1 := Option.some.inj e; omega)).trans (WY.out.block i hi hn)⟩
  go_wp2
  refine bodyPost_ret (v := .tuple #[.agg #[.int .i64 n, .int .i64 j, .int .i64 v, .int .i64 d], .int .i64 0]) ?_ rfl ⟨⟨rfl, GY.out.grown GZ hne⟩, wz⟩
  simp [results, Tryz.results91, go_sem, z0, z1, z2, z3, zl]
end Go.Proofs.YtpfhjdmgkckjfaaGreatDoor
