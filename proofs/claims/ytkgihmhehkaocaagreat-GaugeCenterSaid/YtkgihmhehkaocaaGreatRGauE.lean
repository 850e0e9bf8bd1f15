/- The branches of a small field, as the program makes them.
Conditions: those written at each theorem. -/
import Derived.Test.YtkgihmhehkaocaaGreatRGauD
import Derived.Test.YtkgihmhehkaocaaGreatRHkM
import Derived.Test.YtkgihmhehkaocaaGreatRGauB
import Derived.Test.YtkgihmhehkaocaaGreatRMulCases
import Derived.Test.YtkgihmhehkaocaaGreatRGauC
namespace Go.Proofs.YtkgihmhehkaocaaGreat
set_option linter.unusedVariables false
set_option linter.unusedSimpArgs false
set_option maxRecDepth 1000000
open Go.RowKit
open Um Tm

theorem out_cell {w : World} {g q t j : Nat} {r : Q} {v : Value} (hne : q ≠ t) (hj : j < 5) (h : w.cell? ⟨g, q * 5 + j, none⟩ = some v) : (w.setCells g (t * 5) (uc r)).cell? ⟨g, q * 5 + j, none⟩ = some v := by
  rw [World.cell?_setCells_out g (uc r) (t * 5) w _ (fun _ _ => by rw [uc_len]; show q * 5 + j < t * 5 ∨ t * 5 + 5 ≤ q * 5 + j; omega)]
  exact h
theorem far_cell {w : World} {b o g t : Nat} {r : Q} {v : Value} (hne : b ≠ g) (h : w.cell? ⟨b, o, none⟩ = some v) : (w.setCells g (t * 5) (uc r)).cell? ⟨b, o, none⟩ = some v :=
  (grown_setCells g (uc r) (t * 5) w).cell h (fun e => hne (Option.some.inj e))
set_option maxHeartbeats 12800000 in
theorem gaBr_ok (a b c : Int) (bl off cap N : Nat) (L : List Q) (ns : List Int) (w : World) (h : Lies w bl off L) (hF : Fl a b c L) (hS : AllS L) (hr : numsR a b c L ns 0) (hN : (N : Int) = a * b * c) : Calls Tryz.prog 116 #[.agg #[.int .i64 a, .int .i64 b, .int .i64 c, .slice (some ⟨bl, off, none⟩) L.length cap]] w fun e w' => (∃ g, e = .returned (.tuple #[.slice (some ⟨g, 0, none⟩) N N, .int .i64 0]) ∧ LBox w' g (brL a b c N L) ∧ w.heap.size ≤ g) ∧ Below w.heap.size w w' := by
  have hz := hF.z
  have hln := hF.n
  have hp16 := hz.p
  obtain ⟨-, -, p3, -⟩ := mul_rng hz.a1 hz.a4 hz.b1 hz.b4 hz.c1 hz.c4
  have c1 := fun (g : Nat) (W : World) (hf : FW W g a b c (.slice (some ⟨bl, off, none⟩) L.length cap)) (h : LiesO W (some ⟨bl, off, none⟩) L) => ckS1_any a b c 0 g (some ⟨bl, off, none⟩) cap L ns W hf h hr (by omega)
  have c2 := fun W : World => gaTree_ok a b c W hz N hN
  have c3 := fun W : World => gaId_ok a b c N W hz hN
  have htm := tr_mem hz hN (3 * N) (Nat.le_refl _)
  have htn := tr_ne hz hN (3 * N) (Nat.le_refl _)
  have htl := (tr_len a b c (3 * N)).2
  change ∀ k ∈ trL a b c N, _ at htm
  change ∀ k ∈ trL a b c N, _ at htn
  change (trL a b c N).length ≤ _ at htl
  have cK : ∀ (j : Nat) (k : Int), (trL a b c N)[j]? = some k → ∃ (K q t : Nat) (x y r z : Q), k = (K : Int) ∧ q ≠ t ∧ q < N ∧ t < N ∧ (brT a b c L N ((trL a b c N).take j))[q]? = some x ∧ L[K]? = some y ∧ (brT a b c L N ((trL a b c N).take j))[t]? = some z ∧ brT a b c L N ((trL a b c N).take (j + 1)) = (brT a b c L N ((trL a b c N).take j)).set t r ∧
      (∀ W : World, Calls Tryz.prog 47 #[.agg #[.int .i64 a, .int .i64 b, .int .i64 c], .int .i64 k] W fun e w' => e = .returned (.tuple #[.int .i64 (q : Int), .int .i64 (t : Int), .int .i64 0]) ∧ Below W.heap.size W w') ∧
      (∀ W : World, Calls Tryz.prog 136 #[.agg #[.int .i64 x.a, .int .i64 x.b, .int .i64 x.c, .int .i64 x.d, .int .i64 x.n], .agg #[.int .i64 y.a, .int .i64 y.b, .int .i64 y.c, .int .i64 y.d, .int .i64 y.n]] W fun e w' => e = .returned (.tuple #[.agg #[.int .i64 r.a, .int .i64 r.b, .int .i64 r.c, .int .i64 r.d, .int .i64 r.n], .int .i64 0]) ∧ Below W.heap.size W w') := fun j k hk => by
    have hm := List.mem_of_getElem? hk
    obtain ⟨k0, k1⟩ := htm k hm
    obtain ⟨K, rfl⟩ : ∃ K : Nat, k = (K : Int) := ⟨k.toNat, by omega⟩
    have hne := htn _ hm
    rw [Int.toNat_natCast] at hne
    obtain ⟨t0, t1⟩ := ahd_rng hz K
    obtain ⟨t, ht⟩ : ∃ t : Nat, ahd a b c K = (t : Int) := ⟨(ahd a b c K).toNat, by omega⟩
    have hGl : (brT a b c L N ((trL a b c N).take j)).length = N := brT_len _ _ _ _ _ _
    have hGS : AllS (brT a b c L N ((trL a b c N).take j)) := AllS.br (by omega) hS _ (fun m hm => htm m (List.mem_of_mem_take hm))
    have hx := lk_at (L := brT a b c L N ((trL a b c N).take j)) (i := K / 3) (by omega)
    have hzz := lk_at (L := brT a b c L N ((trL a b c N).take j)) (i := t) (by omega)
    have hy := lk_at (L := L) (i := K) (by omega)
    have sx := hGS _ _ hx
    have sy := hS _ _ hy
    have hs := sx.mul sy
    refine ⟨K, K / 3, t, _, _, low (mul (lk (brT a b c L N ((trL a b c N).take j)) ((K / 3 : Nat) : Int)) (lk L (K : Int))), _, rfl, by omega, by omega, by omega, hx, hy, hzz, ?_, fun W => ?_, fun W => mul_good _ _ _ 0 W sx.1 sy.1 (.inl ⟨by have := hs.2; omega, rfl, rfl⟩)⟩
    · rw [brT_take a b c L N _ j _ hk, brF, Int.toNat_natCast, ht, Int.toNat_natCast]
    · have := ends_ok a b c K W hz (by omega)
      rw [ht] at this
      exact this
  have H := Lib.hid h
  have HC := Lib.hid cK
  have HM := Lib.hid htm
  have N1 : 1 ≤ N := by omega
  have N16 : N ≤ 16 := by omega
  have E0 : brT a b c L N ((trL a b c N).take 0) = List.replicate N one := rfl
  have E1 : brT a b c L N ((trL a b c N).take (trL a b c N).length) = brL a b c N L := by rw [List.take_length]; rfl
  have HE0 := Lib.hid E0
  have HE1 := Lib.hid E1
  change ∀ W : World, Calls _ _ _ W fun e w' => (∃ ao k, e = .returned (.tuple #[.slice ao (trL a b c N).length k, .int .i64 0]) ∧ LiesOI w' ao (trL a b c N)) ∧ _ at c2
  clear h hF hS hr hz hln hp16 p3 hN htm htn cK E0 E1
  generalize trL a b c N = tr at *
  go_enter Tryz.func116, Tryz.ntmps116
  have F0 := Lib.hid (FW.n2a (w := w) (x := a) (y := b) (z := c) (v := .slice (some ⟨bl, off, none⟩) L.length cap) (T := 25) (o := .cells #[.int .i64 a, .int .i64 b, .int .i64 c, .slice (some ⟨bl, off, none⟩) L.length cap] 25))
  go_wp2_with (fail)
  refine (c1 _ _ FW.n2b (.inr ⟨bl, off, rfl, H.out.later ba2⟩)).mono ?_
  rintro e w1 ⟨rfl, hw1⟩
  have F1 := Lib.hid (F0.out.later hw1)
  have b1 := bel2 hw1
  clear c1 F0 hw1
  obtain ⟨f0, f1, f2, f3, ff, fl⟩ := F1.out
  go_wp2_with (fail)
  refine (c2 _).mono ?_
  rintro e w2 ⟨⟨ao, kc, rfl, ht⟩, hw2⟩
  have HT := Lib.hid ht
  have F2 := Lib.hid (F1.out.later hw2)
  have b2 := b1.trans (hw2.mono b1.size)
  clear c2 F1 hw2 ht b1 f0 f1 f2 f3 ff fl
  obtain ⟨f0, f1, f2, f3, ff, fl⟩ := F2.out
  go_wp2_with (fail)
  refine (c3 _).mono ?_
  rintro e w3 ⟨⟨g, rfl, hk, hg⟩, hw3⟩
  have HK := Lib.hid (hk.box)
  have HB := Lib.hid hw3
  clear c3 hk hw3 f0 f1 f2 f3 ff fl
  go_wp2
  go_loopw [9, 10, 11, 12, 39] (fun _ _ _ _ q wr => ∃ j : Nat, j ≤ tr.length ∧ q = .int .i64 j ∧ Hid (LBox wr g (brT a b c L N (tr.take j))) ∧ Hid (Below w2.heap.size w2 wr)) (fun _ _ _ _ q _ => tr.length - (intOf q).toNat)
  case atStart => exact ⟨0, by omega, rfl, by rw [HE0.out]; exact HK, HB⟩
  case round =>
    obtain ⟨j, hj, rfl, HG, HW⟩ := hrel
    clear HK HB
    by_cases hlt : j < tr.length
    · obtain ⟨f0, f1, f2, f3, ff, fl⟩ := F2.out.later HW.out
      have hk := List.getElem?_eq_getElem hlt
      obtain ⟨K, q, t, x, y, r, z, hkK, hne, hq, ht, hx, hy, hzz, hset, cE, cM⟩ := HC.out j _ hk
      obtain ⟨tb, to, rfl, hti⟩ : ∃ tb to, ao = some ⟨tb, to, none⟩ ∧ LiesI w2 tb to tr := by
        rcases HT.out with h | h
        · rw [h] at hlt; exact absurd hlt (by simp)
        · exact h
      have x1 := hti.later HW.out j _ hk
      have lbx := World.block_lt_of_cell? _ _ x1
      have ij : (j : Int) < (tr.length : Int) := by omega
      generalize tr[j] = kk at *
      subst hkK
      have HSET := Lib.hid hset
      clear hk hset hti
      go_wp2_with (fail)
      refine (cE _).mono ?_
      rintro e w5 ⟨rfl, hw5⟩
      have b5 := HW.out.trans (hw5.mono HW.out.size)
      have HW5 := Lib.hid b5
      have HG5 := Lib.hid (HG.out.later hw5)
      clear cE hw5 f0 f1 f2 f3 ff fl x1 lbx HG HW b5
      obtain ⟨f0, f1, f2, f3, ff, fl⟩ := F2.out.later HW5.out
      obtain ⟨m0, m1, m2, m3, m4⟩ := (H.out.later (b2.trans (HW5.out.mono b2.size))) _ _ hy
      obtain ⟨n0, n1, n2, n3, n4⟩ := HG5.out.h _ _ hx
      simp only [Nat.zero_add] at n0 n1 n2 n3 n4
      have lb1 : bl < w5.heap.size := World.block_lt_of_cell? _ _ m0
      have lb2 : g < w5.heap.size := HG5.out.lt
      have lw : bl < w.heap.size := World.block_lt_of_cell? _ _ (H.out _ _ hy).1
      have lw2 := b2.size
      have nbg : bl ≠ g := by omega
      have nwg : w.heap.size ≠ g := by have := F2.out.lt; omega
      have iq : (q : Int) < (N : Int) := by omega
      have it : (t : Int) < (N : Int) := by omega
      have ik : (K : Int) < (L.length : Int) := by have := (List.getElem?_eq_some_iff.1 hy).1; omega
      have HZZ := Lib.hid hzz
      have K5 : Hid (∀ w' : World, Below w5.heap.size w5 w' → (w'.cell? ⟨g, q * 5, none⟩ = some (.int .i64 x.a) ∧ w'.cell? ⟨g, q * 5 + 1, none⟩ = some (.int .i64 x.b) ∧ w'.cell? ⟨g, q * 5 + 2, none⟩ = some (.int .i64 x.c) ∧ w'.cell? ⟨g, q * 5 + 3, none⟩ = some (.int .i64 x.d) ∧ w'.cell? ⟨g, q * 5 + 4, none⟩ = some (.int .i64 x.n) ∧ w'.cell? ⟨bl, off + K * 5, none⟩ = some (.int .i64 y.a) ∧ w'.cell? ⟨bl, off + K * 5 + 1, none⟩ = some (.int .i64 y.b) ∧ w'.cell? ⟨bl, off + K * 5 + 2, none⟩ = some (.int .i64 y.c) ∧ w'.cell? ⟨bl, off + K * 5 + 3, none⟩ = some (.int .i64 y.d) ∧ w'.cell? ⟨bl, off + K * 5 + 4, none⟩ = some (.int .i64 y.n) ∧ w'.cell? ⟨w.heap.size, 3, none⟩ = some (.slice (some ⟨bl, off, none⟩) L.length cap))) := Lib.hid (fun w' h => ⟨held_belowG h n0, held_belowG h n1, held_belowG h n2, held_belowG h n3, held_belowG h n4, held_belowG h m0, held_belowG h m1, held_belowG h m2, held_belowG h m3, held_belowG h m4, held_belowG h f3⟩)
      have K6 : Hid (∀ w' : World, Below w5.heap.size w5 w' → ((((((w'.setCell ⟨g, t * 5, none⟩ (.int .i64 r.a)).setCell ⟨g, t * 5 + 1, none⟩ (.int .i64 r.b)).setCell ⟨g, t * 5 + 2, none⟩ (.int .i64 r.c)).setCell ⟨g, t * 5 + 3, none⟩ (.int .i64 r.d)).setCell ⟨g, t * 5 + 4, none⟩ (.int .i64 r.n)).cell? ⟨g, q * 5, none⟩ = some (.int .i64 x.a) ∧ (((((w'.setCell ⟨g, t * 5, none⟩ (.int .i64 r.a)).setCell ⟨g, t * 5 + 1, none⟩ (.int .i64 r.b)).setCell ⟨g, t * 5 + 2, none⟩ (.int .i64 r.c)).setCell ⟨g, t * 5 + 3, none⟩ (.int .i64 r.d)).setCell ⟨g, t * 5 + 4, none⟩ (.int .i64 r.n)).cell? ⟨g, q * 5 + 1, none⟩ = some (.int .i64 x.b) ∧ (((((w'.setCell ⟨g, t * 5, none⟩ (.int .i64 r.a)).setCell ⟨g, t * 5 + 1, none⟩ (.int .i64 r.b)).setCell ⟨g, t * 5 + 2, none⟩ (.int .i64 r.c)).setCell ⟨g, t * 5 + 3, none⟩ (.int .i64 r.d)).setCell ⟨g, t * 5 + 4, none⟩ (.int .i64 r.n)).cell? ⟨g, q * 5 + 2, none⟩ = some (.int .i64 x.c) ∧ (((((w'.setCell ⟨g, t * 5, none⟩ (.int .i64 r.a)).setCell ⟨g, t * 5 + 1, none⟩ (.int .i64 r.b)).setCell ⟨g, t * 5 + 2, none⟩ (.int .i64 r.c)).setCell ⟨g, t * 5 + 3, none⟩ (.int .i64 r.d)).setCell ⟨g, t * 5 + 4, none⟩ (.int .i64 r.n)).cell? ⟨g, q * 5 + 3, none⟩ = some (.int .i64 x.d) ∧ (((((w'.setCell ⟨g, t * 5, none⟩ (.int .i64 r.a)).setCell ⟨g, t * 5 + 1, none⟩ (.int .i64 r.b)).setCell ⟨g, t * 5 + 2, none⟩ (.int .i64 r.c)).setCell ⟨g, t * 5 + 3, none⟩ (.int .i64 r.d)).setCell ⟨g, t * 5 + 4, none⟩ (.int .i64 r.n)).cell? ⟨g, q * 5 + 4, none⟩ = some (.int .i64 x.n) ∧ (((((w'.setCell ⟨g, t * 5, none⟩ (.int .i64 r.a)).setCell ⟨g, t * 5 + 1, none⟩ (.int .i64 r.b)).setCell ⟨g, t * 5 + 2, none⟩ (.int .i64 r.c)).setCell ⟨g, t * 5 + 3, none⟩ (.int .i64 r.d)).setCell ⟨g, t * 5 + 4, none⟩ (.int .i64 r.n)).cell? ⟨bl, off + K * 5, none⟩ = some (.int .i64 y.a) ∧ (((((w'.setCell ⟨g, t * 5, none⟩ (.int .i64 r.a)).setCell ⟨g, t * 5 + 1, none⟩ (.int .i64 r.b)).setCell ⟨g, t * 5 + 2, none⟩ (.int .i64 r.c)).setCell ⟨g, t * 5 + 3, none⟩ (.int .i64 r.d)).setCell ⟨g, t * 5 + 4, none⟩ (.int .i64 r.n)).cell? ⟨bl, off + K * 5 + 1, none⟩ = some (.int .i64 y.b) ∧ (((((w'.setCell ⟨g, t * 5, none⟩ (.int .i64 r.a)).setCell ⟨g, t * 5 + 1, none⟩ (.int .i64 r.b)).setCell ⟨g, t * 5 + 2, none⟩ (.int .i64 r.c)).setCell ⟨g, t * 5 + 3, none⟩ (.int .i64 r.d)).setCell ⟨g, t * 5 + 4, none⟩ (.int .i64 r.n)).cell? ⟨bl, off + K * 5 + 2, none⟩ = some (.int .i64 y.c) ∧ (((((w'.setCell ⟨g, t * 5, none⟩ (.int .i64 r.a)).setCell ⟨g, t * 5 + 1, none⟩ (.int .i64 r.b)).setCell ⟨g, t * 5 + 2, none⟩ (.int .i64 r.c)).setCell ⟨g, t * 5 + 3, none⟩ (.int .i64 r.d)).setCell ⟨g, t * 5 + 4, none⟩ (.int .i64 r.n)).cell? ⟨bl, off + K * 5 + 3, none⟩ = some (.int .i64 y.d) ∧ (((((w'.setCell ⟨g, t * 5, none⟩ (.int .i64 r.a)).setCell ⟨g, t * 5 + 1, none⟩ (.int .i64 r.b)).setCell ⟨g, t * 5 + 2, none⟩ (.int .i64 r.c)).setCell ⟨g, t * 5 + 3, none⟩ (.int .i64 r.d)).setCell ⟨g, t * 5 + 4, none⟩ (.int .i64 r.n)).cell? ⟨bl, off + K * 5 + 4, none⟩ = some (.int .i64 y.n) ∧ (((((w'.setCell ⟨g, t * 5, none⟩ (.int .i64 r.a)).setCell ⟨g, t * 5 + 1, none⟩ (.int .i64 r.b)).setCell ⟨g, t * 5 + 2, none⟩ (.int .i64 r.c)).setCell ⟨g, t * 5 + 3, none⟩ (.int .i64 r.d)).setCell ⟨g, t * 5 + 4, none⟩ (.int .i64 r.n)).cell? ⟨w.heap.size, 3, none⟩ = some (.slice (some ⟨bl, off, none⟩) L.length cap))) := Lib.hid (fun w' h => ⟨out_cell (r := r) (j := 0) hne (by omega) (held_belowG h n0), out_cell (r := r) (j := 1) hne (by omega) (held_belowG h n1), out_cell (r := r) (j := 2) hne (by omega) (held_belowG h n2), out_cell (r := r) (j := 3) hne (by omega) (held_belowG h n3), out_cell (r := r) (j := 4) hne (by omega) (held_belowG h n4), far_cell (r := r) nbg (held_belowG h m0), far_cell (r := r) nbg (held_belowG h m1), far_cell (r := r) nbg (held_belowG h m2), far_cell (r := r) nbg (held_belowG h m3), far_cell (r := r) nbg (held_belowG h m4), far_cell (r := r) nwg (held_belowG h f3)⟩)
      clear hx hy hzz
      go_wp2_with (fail)
      go_region_held3 (fun w' => w'.cell? ⟨g, q * 5, none⟩ = some (.int .i64 x.a) ∧ w'.cell? ⟨g, q * 5 + 1, none⟩ = some (.int .i64 x.b) ∧ w'.cell? ⟨g, q * 5 + 2, none⟩ = some (.int .i64 x.c) ∧ w'.cell? ⟨g, q * 5 + 3, none⟩ = some (.int .i64 x.d) ∧ w'.cell? ⟨g, q * 5 + 4, none⟩ = some (.int .i64 x.n) ∧ w'.cell? ⟨bl, off + K * 5, none⟩ = some (.int .i64 y.a) ∧ w'.cell? ⟨bl, off + K * 5 + 1, none⟩ = some (.int .i64 y.b) ∧ w'.cell? ⟨bl, off + K * 5 + 2, none⟩ = some (.int .i64 y.c) ∧ w'.cell? ⟨bl, off + K * 5 + 3, none⟩ = some (.int .i64 y.d) ∧ w'.cell? ⟨bl, off + K * 5 + 4, none⟩ = some (.int .i64 y.n) ∧ w'.cell? ⟨w.heap.size, 3, none⟩ = some (.slice (some ⟨bl, off, none⟩) L.length cap))
        (first
          | (with_reducible exact K5.out _ B6)
          | (with_reducible exact K6.out _ B6)
          | (with_reducible exact K5.out _ (Below.refl _ _))
          | go_keep)
        (first
          | ((with_reducible refine (cM _).mono ?_); rintro e w6 ⟨rfl, hw6⟩; have B6 := belDG hw6; have P6 := Lib.hid (HG5.out.later B6); obtain ⟨p0, p1, p2, p3, p4⟩ := P6.out.h _ _ HZZ.out; simp only [Nat.zero_add] at p0 p1 p2 p3 p4; have pf := P6.out.free))
      have LX := P6.out.put t (by rw [brT_len]; exact ht) r
      have BX : Below w2.heap.size w2 (w6.setCells g (t * 5) (uc r)) := (HW5.out.trans (B6.mono HW5.out.size)).grown (grown_setCells g (uc r) (t * 5) w6) (HW5.out.trans (B6.mono HW5.out.size)).size (fun j e => by cases e; omega)
      rw [← HSET.out] at LX
      have HLX := Lib.hid LX
      have HBX := Lib.hid BX
      clear LX BX K5 K6 p0 p1 p2 p3 p4 pf P6 f0 f1 f2 f3 ff fl m0 m1 m2 m3 m4 n0 n1 n2 n3 n4
      change Hid (LBox (((((w6.setCell ⟨g, t * 5, none⟩ (.int .i64 r.a)).setCell ⟨g, t * 5 + 1, none⟩ (.int .i64 r.b)).setCell ⟨g, t * 5 + 2, none⟩ (.int .i64 r.c)).setCell ⟨g, t * 5 + 3, none⟩ (.int .i64 r.d)).setCell ⟨g, t * 5 + 4, none⟩ (.int .i64 r.n)) g (brT a b c L N (tr.take (j + 1)))) at HLX
      change Hid (Below w2.heap.size w2 (((((w6.setCell ⟨g, t * 5, none⟩ (.int .i64 r.a)).setCell ⟨g, t * 5 + 1, none⟩ (.int .i64 r.b)).setCell ⟨g, t * 5 + 2, none⟩ (.int .i64 r.c)).setCell ⟨g, t * 5 + 3, none⟩ (.int .i64 r.d)).setCell ⟨g, t * 5 + 4, none⟩ (.int .i64 r.n))) at HBX
      generalize ((((w6.setCell ⟨g, t * 5, none⟩ (.int .i64 r.a)).setCell ⟨g, t * 5 + 1, none⟩ (.int .i64 r.b)).setCell ⟨g, t * 5 + 2, none⟩ (.int .i64 r.c)).setCell ⟨g, t * 5 + 3, none⟩ (.int .i64 r.d)).setCell ⟨g, t * 5 + 4, none⟩ (.int .i64 r.n) = X at *
      go_wp2
      exact ⟨⟨j + 1, by omega, by go_num, HLX, HBX⟩, by simp [intOf]; omega⟩
    · obtain rfl : j = tr.length := by omega
      have hl := HG.out
      rw [HE1.out] at hl
      have HL := Lib.hid hl
      clear hl HG
      have gb : w.heap.size ≤ g := Nat.le_trans b2.size hg
      go_wp2
      go_ret2
      exact ⟨⟨g, rfl, HL.out, gb⟩, b2.trans (HW.out.mono b2.size)⟩
end Go.Proofs.YtkgihmhehkaocaaGreat

/- The branches of a small field, as the document's answers make them (written by mkHm.py).
Conditions: those written at each theorem. -/
namespace Go.Proofs.YtkgihmhehkaocaaGreat
set_option linter.unusedVariables false
set_option linter.unusedSimpArgs false
set_option maxRecDepth 1000000
open Go.RowKit
open Um Tm

/-- the tree's links lie in a block behind another one -/
def TB (w : World) (g : Nat) (ao : Option Addr) (tr : List Int) : Prop := tr = [] ∨ ∃ tb to, ao = some ⟨tb, to, none⟩ ∧ g < tb ∧ LiesI w tb to tr
theorem TB.of {w : World} {B g : Nat} {ao : Option Addr} {tr : List Int} (h : LiesNI w B ao tr) (hg : g < B) : TB w g ao tr := by
  rcases h with h | ⟨b, off, h, hB, -, hl⟩
  · exact .inl h
  · exact .inr ⟨b, off, h, Nat.lt_of_lt_of_le hg hB, hl⟩
theorem TB.later {w w1 : World} {g : Nat} {ao : Option Addr} {tr : List Int} (h : TB w g ao tr) (hb : Below w.heap.size w w1) : TB w1 g ao tr := by
  rcases h with h | ⟨b, off, h, hB, hl⟩
  · exact .inl h
  · exact .inr ⟨b, off, h, hB, hl.later hb⟩
theorem TB.put {w : World} {g t : Nat} {r : Q} {ao : Option Addr} {tr : List Int} (h : TB w g ao tr) : TB (w.setCells g (t * 5) (uc r)) g ao tr := by
  rcases h with h | ⟨b, off, h, hB, hl⟩
  · exact .inl h
  · exact .inr ⟨b, off, h, hB, fun i x hx => far_cell (by omega) (hl i x hx)⟩
end Go.Proofs.YtkgihmhehkaocaaGreat

/- The fixed field and the loops of a small field, as the program makes them.
Conditions: those written at each theorem. -/
namespace Go.Proofs.YtkgihmhehkaocaaGreat
set_option linter.unusedVariables false
set_option linter.unusedSimpArgs false
set_option maxRecDepth 1000000
open Go.RowKit
open Um Tm

theorem gaR_of {a b c : Int} {L G : List Q} (hF : fldR a b c L 0) (hn : 3 * G.length = L.length) (hG : AllS G) : gaR a b c L G 0 :=
  .inr (.inr ⟨hF, hn, .inl ⟨fun i x hx => .inr (.inr ⟨(hG i x hx).1, by have := (hG i x hx).2; omega, rfl⟩), rfl⟩⟩)
theorem brL_all {a b c : Int} {N : Nat} {L : List Q} (hF : Fl a b c L) (hS : AllS L) (hN : (N : Int) = a * b * c) : AllS (brL a b c N L) :=
  AllS.br (by have := hF.n; omega) hS _ (tr_mem hF.z hN (3 * N) (Nat.le_refl _))
theorem fxL_all {a b c : Int} {N : Nat} {L : List Q} (hF : Fl a b c L) (hS : AllS L) (hN : (N : Int) = a * b * c) : AllS (fxL a b c N L) := by
  have hn := hF.n
  exact AllS.tf hF.z hF.n (by unfold brL; rw [brT_len]; omega) hS (brL_all hF hS hN)
theorem fxL_len (a b c : Int) (N : Nat) (L : List Q) : (fxL a b c N L).length = L.length := tfL_len _ _ _ _ _
theorem brL_len (a b c : Int) (N : Nat) (L : List Q) : (brL a b c N L).length = N := brT_len _ _ _ _ _ _
set_option maxHeartbeats 3200000 in
theorem gaFix_ok (a b c : Int) (bl off cap N : Nat) (L : List Q) (ns : List Int) (w : World) (h : Lies w bl off L) (hF : fldR a b c L 0) (hS : AllS L) (hr : numsR a b c L ns 0) (hN : (N : Int) = a * b * c) : Calls Tryz.prog 93 #[.agg #[.int .i64 a, .int .i64 b, .int .i64 c, .slice (some ⟨bl, off, none⟩) L.length cap]] w fun e w' => (∃ g k : Nat, e = .returned (.tuple #[.agg #[.int .i64 a, .int .i64 b, .int .i64 c, .slice (some ⟨g, 0, none⟩) L.length k], .int .i64 0]) ∧ LBox w' g (fxL a b c N L) ∧ w.heap.size ≤ g) ∧ Below w.heap.size w w' := by
  have hFl : Fl a b c L := ⟨(fldR_ok hF).1, (fldR_ok hF).2.1, (fldR_ok hF).2.2⟩
  have hG := gaR_of (L := L) (G := brL a b c N L) hF (by rw [brL_len]; have := hFl.n; omega) (brL_all hFl hS hN)
  have c1 := fun (W : World) (h : Lies W bl off L) => gaBr_ok a b c bl off cap N L ns W h hFl hS hr hN
  have c2 : ∀ (W : World) (g gc : Nat), Lies W bl off L → Lies W g 0 (brL a b c N L) → Calls Tryz.prog 14 #[.agg #[.int .i64 a, .int .i64 b, .int .i64 c, .slice (some ⟨bl, off, none⟩) L.length cap], .slice (some ⟨g, 0, none⟩) N gc] W fun e w' => (∃ g k : Nat, e = .returned (.tuple #[.agg #[.int .i64 a, .int .i64 b, .int .i64 c, .slice (some ⟨g, 0, none⟩) L.length k], .int .i64 0]) ∧ LBox w' g (fxL a b c N L) ∧ W.heap.size ≤ g) ∧ Below W.heap.size W w' := fun W g gc h1 h2 => by
    have := gaT_ok a b c bl off g 0 cap gc L (brL a b c N L) W h1 h2 hG
    rw [brL_len] at this
    refine this.mono fun e w' ⟨hr, hb⟩ => ⟨?_, hb⟩
    rcases hr with ⟨-, hr⟩ | ⟨hr, -⟩
    · exact hr
    · exact absurd (fxL_all hFl hS hN).lim hr
  have H := Lib.hid h
  clear h hF hS hr hFl hG
  go_enter Tryz.func93, Tryz.ntmps93
  have F0 := Lib.hid (FW.n2a (w := w) (x := a) (y := b) (z := c) (v := .slice (some ⟨bl, off, none⟩) L.length cap) (T := 25) (o := .cells #[.int .i64 0, .int .i64 0, .int .i64 0, .slice none 0 0] 25))
  have R0 := Lib.hid (FW.n2b (w := w) (x := 0) (y := 0) (z := 0) (v := .slice none 0 0) (T := 25) (o := .cells #[.int .i64 a, .int .i64 b, .int .i64 c, .slice (some ⟨bl, off, none⟩) L.length cap] 25))
  go_wp2_with (fail)
  refine (c1 _ (H.out.later ba2)).mono ?_
  rintro e w1 ⟨⟨g, rfl, hg, hge⟩, hw1⟩
  have b1 := bel2 hw1
  have F1 := Lib.hid (F0.out.later hw1)
  have R1 := Lib.hid (R0.out.later hw1)
  have HG := Lib.hid hg
  clear c1 hw1 F0 R0 hg
  obtain ⟨f0, f1, f2, f3, ff, fl⟩ := F1.out
  go_wp2_with (fail)
  refine (c2 _ g N (H.out.later b1) HG.out.h).mono ?_
  rintro e w2 ⟨⟨g2, k2, rfl, hg2, hge2⟩, hw2⟩
  have b2 := b1.trans (hw2.mono b1.size)
  obtain ⟨r0, r1, r2, r3, rf, rl⟩ := R1.out.later hw2
  have rl1 := R1.out.lt
  have gX := grown4 (w := w2) (w.heap.size + 1) (.int .i64 a) (.int .i64 b) (.int .i64 c) (.slice (some ⟨g2, 0, none⟩) L.length k2)
  have bX := b2.grown gX b2.size (fun j e => by cases e; omega)
  have LX := Lib.hid (hg2.grown gX (fun e => by have := Option.some.inj e; omega))
  have HBX := Lib.hid bX
  have b1s := b1.size
  clear hw2 c2 f0 f1 f2 f3 ff fl gX bX hg2
  go_wp2
  refine bodyPost_ret (v := .tuple #[.agg #[.int .i64 a, .int .i64 b, .int .i64 c, .slice (some ⟨g2, 0, none⟩) L.length k2], .int .i64 0]) ?_ rfl ⟨⟨g2, k2, rfl, LX.out, by omega⟩, HBX.out⟩
  simp [results, Tryz.results93, go_sem, r0, r1, r2, r3]
set_option maxHeartbeats 800000 in
theorem contains0_any (ao : Option Addr) (cap : Nat) (t : Int) (w : World) : Calls Tryz.prog 48 #[.slice ao 0 cap, .int .i64 t] w fun e w' => e = .returned (.bool false) ∧ Below w.heap.size w w' := by
  have c1 : ∀ W : World, Calls Tryz.prog 82 #[.slice ao 0 cap, .int .i64 t] W fun e w' => e = .returned (.int .i64 (-1)) ∧ Below W.heap.size W w' := fun W => by
    go_enter Tryz.func82, Tryz.ntmps82
    go_wp2
    refine wp_loop_rounds 1 ?_
    rw [rounds_succ]
    go_wp2
    go_ret
    exact ⟨rfl, Below.refl _ _⟩
  go_enter Tryz.func48, Tryz.ntmps48
  go_wp2_with (fail)
  refine (c1 _).mono ?_
  rintro e w1 ⟨rfl, hw1⟩
  go_wp2
  go_ret
  exact ⟨rfl, hw1⟩
theorem containsO_any (ao : Option Addr) (cap : Nat) (t : Int) (l : List Int) (w : World) (h : LiesOI w ao l) (hn : l.length ≤ 1000000) : Calls Tryz.prog 48 #[.slice ao l.length cap, .int .i64 t] w fun e w' => e = .returned (.bool (decide (t ∈ l))) ∧ Below w.heap.size w w' := by
  rcases h with rfl | ⟨b, off, rfl, h⟩
  · have := contains0_any ao cap t w
    simpa using this
  · exact contains_any b off cap t l w h hn
end Go.Proofs.YtkgihmhehkaocaaGreat

/- The loops of a small field, as the program makes them.
Conditions: those written at each theorem. -/
namespace Go.Proofs.YtkgihmhehkaocaaGreat
set_option linter.unusedVariables false
set_option linter.unusedSimpArgs false
set_option maxRecDepth 1000000
open Go.RowKit
open Um Tm

theorem owned_liesOG {w : World} {base : Nat} {T : TypeId} {v : Value} {n : Nat} {L : List Q} (hn : n = L.length) (h : w.ownsRow base T 5 v n (L.flatMap uc)) : ∃ ao cap, v = .slice ao L.length cap ∧ LiesO w ao L := by
  subst hn
  rcases h.2 with ⟨rfl, h0⟩ | ⟨g, cap, cur, rfl, hg, _⟩
  · exact ⟨none, 0, by rw [h0], .inl (List.length_eq_zero_iff.1 h0)⟩
  · exact ⟨_, cap, rfl, .inr ⟨g, 0, rfl, owned_lies h⟩⟩
theorem lpK_flat (T : List Q) (tr : List Int) (k : Nat) (h : (k : Int) ∉ tr) : (lpK T tr (k + 1)).flatMap uc = (lpK T tr k).flatMap uc ++ uc (lk T (k : Int)) ∧ (lpK T tr (k + 1)).length = (lpK T tr k).length + 1 := by
  constructor
  · rw [lpK, if_neg h, List.flatMap_append]; simp
  · rw [lpK, if_neg h]; simp
set_option maxHeartbeats 6400000 in
theorem gaLp_ok (a b c : Int) (bl off cap N : Nat) (L : List Q) (ns : List Int) (w : World) (h : Lies w bl off L) (hF : fldR a b c L 0) (hS : AllS L) (hr : numsR a b c L ns 0) (hN : (N : Int) = a * b * c) : Calls Tryz.prog 57 #[.agg #[.int .i64 a, .int .i64 b, .int .i64 c, .slice (some ⟨bl, off, none⟩) L.length cap]] w fun e w' => (∃ ao k, e = .returned (.tuple #[.slice ao (lpL a b c N L).length k, .int .i64 0]) ∧ LiesO w' ao (lpL a b c N L)) ∧ Below w.heap.size w w' := by
  have hz := (fldR_ok hF).1
  have hn := (fldR_ok hF).2.1
  have hp16 := hz.p
  have c1 := fun (W : World) (h : Lies W bl off L) => gaFix_ok a b c bl off cap N L ns W h hF hS hr hN
  have c2 : ∀ W : World, Calls Tryz.prog 22 #[.agg #[.int .i64 a, .int .i64 b, .int .i64 c]] W fun e w' => (∃ ao k, e = .returned (.tuple #[.slice ao (trL a b c N).length k, .int .i64 0]) ∧ LiesOI w' ao (trL a b c N)) ∧ Below W.heap.size W w' := fun W => gaTree_ok a b c W hz N hN
  have htl := (tr_len a b c (3 * N)).2
  change (trL a b c N).length ≤ _ at htl
  have hTl := fxL_len a b c N L
  have hlp : lpL a b c N L = lpK (fxL a b c N L) (trL a b c N) L.length := rfl
  rw [hlp]
  obtain ⟨i0, hi, hz0, hz1, hz2⟩ := info_parts infoU
  have H := Lib.hid h
  have HTL := Lib.hid hTl
  have HFL := Lib.hid (fun k h => lpK_flat (fxL a b c N L) (trL a b c N) k h)
  have HLN := Lib.hid (fun k => lpK_len (fxL a b c N L) (trL a b c N) k)
  have HOL : Hid (∀ k : Nat, (k : Int) ∈ trL a b c N → lpK (fxL a b c N L) (trL a b c N) (k + 1) = lpK (fxL a b c N L) (trL a b c N) k) := Lib.hid (fun k hk => by rw [lpK, if_pos hk])
  have hl48 : L.length ≤ 48 := by omega
  have ht48 : (trL a b c N).length ≤ L.length := by omega
  have cC := fun (ao : Option Addr) (cc : Nat) (k : Nat) (W : World) (h : LiesOI W ao (trL a b c N)) => containsO_any ao cc (k : Int) (trL a b c N) W h (by omega)
  clear h hF hS hr hz hn hp16 hN htl hTl hlp
  generalize trL a b c N = tr at *
  generalize fxL a b c N L = T at *
  go_enter Tryz.func57, Tryz.ntmps57
  have F0 := Lib.hid (FW.n1 (w := w) (x := a) (y := b) (z := c) (v := .slice (some ⟨bl, off, none⟩) L.length cap) (T := 25))
  go_wp2_with (fail)
  refine (c1 _ (H.out.later ba1)).mono ?_
  rintro e w1 ⟨⟨g, gk, rfl, hg, hge⟩, hw1⟩
  have b1 := bel1 hw1
  have F1 := Lib.hid (F0.out.later (hw1.trans (ba1.mono hw1.size : Below _ w1 (w1.alloc (.cells #[.int .i64 a, .int .i64 b, .int .i64 c, .slice (some ⟨g, 0, none⟩) L.length gk] 25)))))
  have HG := Lib.hid (hg.later (ba1 (o := .cells #[.int .i64 a, .int .i64 b, .int .i64 c, .slice (some ⟨g, 0, none⟩) L.length gk] 25)))
  have G1 := Lib.hid (FW.n1 (w := w1) (x := a) (y := b) (z := c) (v := .slice (some ⟨g, 0, none⟩) L.length gk) (T := 25))
  have b2 : Below w.heap.size w (w1.alloc (.cells #[.int .i64 a, .int .i64 b, .int .i64 c, .slice (some ⟨g, 0, none⟩) L.length gk] 25)) := b1.trans (ba1.mono b1.size)
  clear c1 hw1 F0 hg b1
  obtain ⟨f0, f1, f2, f3, ff, fl⟩ := F1.out
  go_wp2_with (fail)
  refine (c2 _).mono ?_
  rintro e w2 ⟨⟨ao, tc, rfl, ht⟩, hw2⟩
  have HT := Lib.hid ht
  have HG2 := Lib.hid (HG.out.later hw2)
  have G2 := Lib.hid (G1.out.later hw2)
  have b3 := b2.trans (hw2.mono b2.size)
  clear c2 F1 HG G1 hw2 ht f0 f1 f2 f3 ff fl b2
  obtain ⟨f0, f1, f2, f3, ff, fl⟩ := G2.out
  obtain ⟨n, hnn⟩ : ∃ n : Nat, (L.length : Int) - (tr.length : Int) = (n : Int) := ⟨L.length - tr.length, by omega⟩
  have hn48 : n ≤ 48 := by omega
  have hl2 : n ≤ maxLen := by unfold maxLen; omega
  have hl3 : i0.bytes * n ≤ 281474976710656 := by rw [hz2]; omega
  have ew : IntKind.i64.wrap ((L.length : Int) - (tr.length : Int)) = (n : Int) := by rw [hnn]; exact IntWalk.i64_in _ (by omega)
  clear hnn
  go_wp2_with (at_make; refine wpList_make_own _ rfl _ _ 23 rfl w2.heap.size 55 i0 _ 5 Tryz.underlying23 hi hz0 hz1 _ _ _ n rfl rfl rfl hl3 hl2 (Nat.le_refl _) ?_; intro w3 hown hgrow; have hb3 : Below w2.heap.size w2 w3 := (Below.refl _ _).grown hgrow (by omega) (by simp); obtain ⟨f0, f1, f2, f3, ff, fl⟩ := G2.out.later hb3)
  have HW := Lib.hid hb3
  have HO := Lib.hid hown
  clear hgrow hown hb3 f0 f1 f2 f3 ff fl
  have b3s := b3.size
  generalize hB : w2.heap.size = B at *
  have HBe := Lib.hid hB
  clear hB
  go_loopw [7, 8, 9, 37] (fun v _ _ q wr => ∃ k : Nat, k ≤ L.length ∧ q = .int .i64 k ∧ Hid (wr.ownsRow B 55 5 v (lpK T tr k).length ((lpK T tr k).flatMap uc)) ∧ Hid (Below B w2 wr)) (fun _ _ _ q _ => L.length - (intOf q).toNat)
  case atStart => exact ⟨0, by omega, rfl, HO, HW⟩
  case round =>
    obtain ⟨k, hk, rfl, hown, hw⟩ := hrel
    clear HO HW
    obtain ⟨ro, rc, rfl⟩ := owned5_form' hown.out
    by_cases hlt : k < L.length
    · have hx := lk_at (L := T) (i := k) (by rw [HTL.out]; exact hlt)
      have hwB : Below w2.heap.size w2 wr := by rw [HBe.out]; exact hw.out
      obtain ⟨l0, l1, l2, l3, l4⟩ := (HG2.out.later hwB).h _ _ hx
      simp only [Nat.zero_add] at l0 l1 l2 l3 l4
      have bws := hw.out.size
      rw [HBe.out] at bws
      have ik : (k : Int) < (L.length : Int) := by omega
      have cC1 := fun (W : World) (h : LiesOI W ao tr) => cC ao tc k W h
      have HTr := Lib.hid (HT.out.later hwB)
      have kl := HLN.out k
      generalize hxe : lk T (k : Int) = x at *
      have HXE := Lib.hid hxe
      clear hx hwB hxe
      by_cases hmem : (k : Int) ∈ tr
      · have cC2 : ∀ (W : World), LiesOI W ao tr → Calls Tryz.prog 48 #[.slice ao tr.length tc, .int .i64 (k : Int)] W fun e w' => e = .returned (.bool true) ∧ Below W.heap.size W w' := fun W h => by
          have := cC1 W h
          rw [decide_eq_true hmem] at this
          exact this
        have hs := HOL.out k hmem
        have HS := Lib.hid hs
        clear cC1 hmem hs
        go_wp2_with (fail)
        refine (cC2 _ (HTr.out.later ba1)).mono ?_
        rintro e w5 ⟨rfl, hw5⟩
        have b5 : Below wr.heap.size wr w5 := bel1 hw5
        have O5 := Lib.hid (owned_later hown.out b5)
        have W5 := Lib.hid (hw.out.trans (b5.mono bws))
        clear cC2 hw5 hown hw l0 l1 l2 l3 l4 b5
        go_wp2
        exact ⟨⟨k + 1, by omega, by go_num, by rw [HS.out]; exact O5, W5⟩, by simp [intOf]; omega⟩
      · have cC2 : ∀ (W : World), LiesOI W ao tr → Calls Tryz.prog 48 #[.slice ao tr.length tc, .int .i64 (k : Int)] W fun e w' => e = .returned (.bool false) ∧ Below W.heap.size W w' := fun W h => by
          have := cC1 W h
          rw [decide_eq_false hmem] at this
          exact this
        have hs := HFL.out k hmem
        rw [HXE.out] at hs
        have HS := Lib.hid hs
        clear cC1 hmem hs
        go_wp2_with (fail)
        refine (cC2 _ (HTr.out.later ba1)).mono ?_
        rintro e w5 ⟨rfl, hw5⟩
        have X5 := Lib.hid ((show LBox (wr.alloc (.cells #[.int .i64 x.a, .int .i64 x.b, .int .i64 x.c, .int .i64 x.d, .int .i64 x.n] 55)) wr.heap.size [x] from ⟨lies1n, fun j => by simp [go_sem], by simp⟩).later hw5)
        have b5 : Below wr.heap.size wr w5 := bel1 hw5
        have O5 := Lib.hid (owned_later hown.out (b5.trans (ba1.mono b5.size : Below _ w5 (w5.alloc (.cells #[.int .i64 x.a, .int .i64 x.b, .int .i64 x.c, .int .i64 x.d, .int .i64 x.n] 55)))))
        have W5 := Lib.hid (hw.out.trans (b5.mono bws))
        have b5s := b5.size
        clear cC2 hw5 hown hw l0 l1 l2 l3 l4 b5
        obtain ⟨⟨r0, r1, r2, r3, r4⟩, rf, rl⟩ := one_boxI X5.out
        obtain ⟨CS, hCS⟩ : ∃ CS, CS = (lpK T tr k).flatMap uc := ⟨_, rfl⟩
        rw [← hCS] at O5
        have HCS := Lib.hid hCS
        clear hCS
        go_wp2_with (at_builtin; refine wpList_append_own _ rfl (.tmp 46) (.tmp 48) 23 rfl B 55 i0 _ 5 40 Tryz.underlying23 hi hz0 hz1 hz2 rfl (by decide) (.slice ro (lpK T tr k).length rc) (lpK T tr k).length CS rfl O5.out ⟨w5.heap.size, 0, none⟩ 1 1 (uc x) rfl rfl (five_cells rfl (by simp [go_sem]) (by simp [go_sem]) (by simp [go_sem]) (by simp [go_sem]) (by simp [go_sem])) (five_one rfl) (by unfold maxLen; omega) (by omega) (by simp; omega) ?_; intro v6 w6 hown6 hgrow6 _; obtain ⟨g6, c6, rfl, hg6⟩ := owned5_some hown6 (by omega))
        rw [HCS.out, ← HS.out.1, ← HS.out.2] at hown6
        have W6 : Hid (Below B w2 w6) := Lib.hid ((W5.out.alloc (by omega) _).grown hgrow6 (by simp; omega) (fun j hj => owned_from O5.out j hj))
        have e6 := HS.out.2
        have O6 := Lib.hid hown6
        clear hown6 hgrow6 O5 HCS r0 r1 r2 r3 r4 rf rl
        rw [e6] at O6
        go_wp2
        exact ⟨⟨k + 1, by omega, by go_num, by rw [e6]; exact O6, W6⟩, by simp [intOf]; omega⟩
    · obtain rfl : k = L.length := by omega
      obtain ⟨ao2, k2, he, hl⟩ := owned_liesOG rfl hown.out
      simp only [Value.slice.injEq, true_and] at he
      obtain ⟨rfl, rfl⟩ := he
      have HL := Lib.hid hl
      have hwB := b3.trans ((show Below w2.heap.size w2 wr by rw [HBe.out]; exact hw.out).mono b3.size)
      have HWB := Lib.hid hwB
      clear hl hown hwB
      go_wp2
      go_ret2
      exact ⟨⟨ro, rc, rfl, HL.out⟩, HWB.out⟩
end Go.Proofs.YtkgihmhehkaocaaGreat

/- The loops of a small field, as the document's answers make them.
Conditions: those written at each theorem. -/
namespace Go.Proofs.YtkgihmhehkaocaaGreat
set_option linter.unusedVariables false
set_option linter.unusedSimpArgs false
set_option maxRecDepth 1000000
open Go.RowKit
open Um Tm

end Go.Proofs.YtkgihmhehkaocaaGreat
