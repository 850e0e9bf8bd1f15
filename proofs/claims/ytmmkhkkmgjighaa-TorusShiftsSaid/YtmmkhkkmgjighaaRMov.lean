/- A field that is shifted, as the document's answers make it.
Conditions: those written at each theorem. -/
import Derived.Test.YtmmkhkkmgjighaaMovS
namespace Go.Proofs.Ytmmkhkkmgjighaa
set_option linter.unusedVariables false
set_option linter.unusedSimpArgs false
set_option maxRecDepth 1000000
open Go.RowKit
open Um Tm

set_option maxHeartbeats 12800000 in
theorem refShift_ok (a b c u v t : Int) (bl off cap N : Nat) (L : List Q) (w : World) (hl : Lies w bl off L) (hF : Fl a b c L) (hN : (N : Int) = a * b * c) :
    Calls Try.prog 20 #[.agg #[.int .i64 a, .int .i64 b, .int .i64 c, .slice (some ⟨bl, off, none⟩) L.length cap], .agg #[.int .i64 u, .int .i64 v, .int .i64 t]] w fun e w' => ∃ g k : Nat, e = .returned (.tuple #[.agg #[.int .i64 a, .int .i64 b, .int .i64 c, .slice (some ⟨g, 0, none⟩) L.length k], .int .i64 0]) ∧ Lies w' g 0 (shL a b c u v t L) ∧ Below w.heap.size w w' := by
  have hz := hF.z
  have hp16 := hz.p
  have hn := hF.n
  obtain ⟨-, -, p3, -⟩ := mul_rng hz.a1 hz.a4 hz.b1 hz.b4 hz.c1 hz.c4
  have hpos : 0 < L.length := by omega
  have cV := fun (W : World) (h : Lies W bl off L) => refValidateF_any a b c 0 (some ⟨bl, off, none⟩) cap L W (.inr ⟨bl, off, rfl, h⟩) (Fl_fldR hF) (by omega)
  have cC := fun (W : World) (h : Lies W bl off L) => refCopy_some a b c bl off cap L W h hpos (by omega)
  have cS := fun W : World => refSize_any a b c W hz.a1 hz.a4 hz.b1 hz.b4 hz.c1 hz.c4
  rw [← hN] at cS
  have H := Lib.hid hl
  have HF := Lib.hid hF
  have HN := Lib.hid hN
  have HLN := Lib.hid hn
  have hTL := shL_len a b c u v t L
  have HT := Lib.hid (shL_shd (x := u) (y := v) (z := t) hz hn)
  obtain ⟨T, hT⟩ : ∃ T, T = shL a b c u v t L := ⟨_, rfl⟩
  rw [← hT] at hTL HT ⊢
  have HTL := Lib.hid hTL
  clear hT hTL
  clear hl hF hz hN hn p3 hp16
  go_enter Try.func20, Try.ntmps20
  go_wp2_with (first
    | ((with_reducible refine (cV _ (H.out.later (by repeat (first | (with_reducible exact Below.refl _ _) | (with_reducible refine Below.setCell ?_ ?_ _) | (with_reducible refine Below.drew ?_) | (with_reducible refine Below.alloc ?_ ?_ _) | omega | (simp <;> omega))))).mono ?_); clear cV; rintro e w1 ⟨rfl, hw1⟩; have hc1 := Tail.cells hw1; have zw10 := Nat.lt_of_lt_of_le (n := w.heap.size) (by simp <;> omega) hw1.size; have zw11 := Nat.lt_of_lt_of_le (n := w.heap.size + 1) (by simp <;> omega) hw1.size; have zw12 := Nat.lt_of_lt_of_le (n := w.heap.size + 2) (by simp <;> omega) hw1.size)
    | ((with_reducible refine (cC _ (H.out.later (by repeat (first | (with_reducible exact Below.refl _ _) | (with_reducible refine Below.setCell ?_ ?_ _) | (with_reducible refine Below.drew ?_) | (with_reducible refine Below.alloc ?_ ?_ _) | (with_reducible refine Below.trans ?_ (Below.mono hw1 ?_)) | (with_reducible exact hw1.size) | omega | (simp <;> omega) | (simp <;> (have s := hw1.size; omega)) | (have s0 := hw1.size; (try simp at s0); (try simp); omega))))).mono ?_); clear cC; rintro e w2 ⟨g, kp, rfl, hL, hg, hw2⟩; have HL := Lib.hid hL; clear hL))
  have hB12 : Below w1.heap.size w1 w2 := hw2
  have hB3 : Below w.heap.size w (w2.alloc (.cells #[.int .i64 a, .int .i64 b, .int .i64 c, .slice (some ⟨g, 0, none⟩) L.length kp] 25)) := by repeat (first | (with_reducible exact Below.refl _ _) | (with_reducible refine Below.setCell ?_ ?_ _) | (with_reducible refine Below.drew ?_) | (with_reducible refine Below.alloc ?_ ?_ _) | (with_reducible refine Below.trans ?_ (Below.mono hw2 ?_)) | (with_reducible refine Below.trans ?_ (Below.mono hw1 ?_)) | (with_reducible exact hw2.size) | (with_reducible exact hw1.size) | omega | (simp <;> omega) | (simp <;> (have s := hw2.size; omega)) | (simp <;> (have s := hw1.size; omega)) | (have s0 := hw2.size; (try simp at s0); have s1 := hw1.size; (try simp at s1); (try simp); omega))
  have hgw2 : g < w2.heap.size := HL.out.lt
  have hg3 : w.heap.size + 1 + 1 < g := by omega
  have z2 := hw2.size
  have hB13 : Below w1.heap.size w1 (w2.alloc (.cells #[.int .i64 a, .int .i64 b, .int .i64 c, .slice (some ⟨g, 0, none⟩) L.length kp] 25)) := by repeat (first | (with_reducible exact Below.refl _ _) | (with_reducible refine Below.setCell ?_ ?_ _) | (with_reducible refine Below.drew ?_) | (with_reducible refine Below.alloc ?_ ?_ _) | (with_reducible refine Below.trans ?_ (Below.mono hw2 ?_)) | (with_reducible exact hw2.size) | omega | (simp <;> omega) | (simp <;> (have s := hw2.size; omega)) | (have s0 := hw2.size; (try simp at s0); (try simp); omega))
  have M0 : MS ([(w.heap.size, #[.int .i64 a, .int .i64 b, .int .i64 c, .slice (some ⟨bl, off, none⟩) L.length cap], 25), (w.heap.size + 1, #[.int .i64 u, .int .i64 v, .int .i64 t], 22), (w.heap.size + 1 + 1, #[.int .i64 0, .int .i64 0, .int .i64 0, .slice none 0 0], 25), (w2.heap.size, #[.int .i64 a, .int .i64 b, .int .i64 c, .slice (some ⟨g, 0, none⟩) L.length kp], 25)] : List (Nat × Array Value × TypeId)) g (w2.alloc (.cells #[.int .i64 a, .int .i64 b, .int .i64 c, .slice (some ⟨g, 0, none⟩) L.length kp] 25)) L := by
    refine ⟨?_, ?_, hpos⟩
    · intro b' cs t' hm
      simp only [List.mem_cons, Prod.mk.injEq, List.not_mem_nil, or_false] at hm
      rcases hm with ⟨rfl, rfl, rfl⟩ | ⟨rfl, rfl, rfl⟩ | ⟨rfl, rfl, rfl⟩ | ⟨rfl, rfl, rfl⟩
      · exact ⟨(hB13.block _ (by omega)).trans ((hw1.block _ (by simp; omega)).trans ((Below.heap_alloc _ _ _ (by simp; omega)).trans ((Below.heap_alloc _ _ _ (by simp)).trans (World.alloc_heap_new w _)))), by omega⟩
      · refine ⟨(hB13.block _ (by omega)).trans ((hw1.block _ (by simp)).trans ((Below.heap_alloc _ _ _ (by simp)).trans ?_)), by omega⟩
        have := World.alloc_heap_new (w.alloc (.cells #[.int .i64 a, .int .i64 b, .int .i64 c, .slice (some ⟨bl, off, none⟩) L.length cap] 25)) (.cells #[.int .i64 u, .int .i64 v, .int .i64 t] 22)
        rwa [World.size_alloc] at this
      · refine ⟨(hB13.block _ (by omega)).trans ((hw1.block _ (by simp)).trans ?_), by omega⟩
        have := World.alloc_heap_new ((w.alloc (.cells #[.int .i64 a, .int .i64 b, .int .i64 c, .slice (some ⟨bl, off, none⟩) L.length cap] 25)).alloc (.cells #[.int .i64 u, .int .i64 v, .int .i64 t] 22)) (.cells #[.int .i64 0, .int .i64 0, .int .i64 0, .slice none 0 0] 25)
        rwa [World.size_alloc, World.size_alloc] at this
      · exact ⟨World.alloc_heap_new w2 _, by omega⟩
    · exact HL.out.later ((Below.refl _ _).alloc (Nat.le_refl _) _)
  clear hw1 hw2 hc1 hB12 hB13 zw10 zw11 zw12 HL
  obtain ⟨p2, hp2⟩ : ∃ p2, p2 = w2.heap.size := ⟨_, rfl⟩
  rw [← hp2] at M0 hgw2
  go_loopw [8] (fun q wr => ∃ (k : Nat) (G : List Q), k ≤ N ∧ q = .int .i64 k ∧ MS ([(w.heap.size, #[.int .i64 a, .int .i64 b, .int .i64 c, .slice (some ⟨bl, off, none⟩) L.length cap], 25), (w.heap.size + 1, #[.int .i64 u, .int .i64 v, .int .i64 t], 22), (w.heap.size + 1 + 1, #[.int .i64 0, .int .i64 0, .int .i64 0, .slice none 0 0], 25), (p2, #[.int .i64 a, .int .i64 b, .int .i64 c, .slice (some ⟨g, 0, none⟩) L.length kp], 25)] : List (Nat × Array Value × TypeId)) g wr G ∧ Hid (Filld T G (fun i => ∃ s : Int, 0 ≤ s ∧ s < (k : Int) ∧ i / 3 = sh a b c u v t s)) ∧ Below w.heap.size w wr) (fun q _ => N - (intOf q).toNat)
  case atStart => exact ⟨0, L, by omega, rfl, by rw [hp2] at M0 ⊢; exact M0, Lib.hid ((Filld.none HTL.out.symm).mono (fun i _ h => by obtain ⟨s, h0, h1, _⟩ := h; omega)), hB3⟩
  case round =>
    obtain ⟨k, G, hk, rfl, hM, hG, hB⟩ := hrel
    clear M0 hB3
    rw [← hp2] at *
    have hz := HF.out.z
    have hp16 := hz.p
    have hn := HLN.out
    have hN := HN.out
    have hGl := hG.out.1
    rw [HTL.out] at hGl
    have HGL := Lib.hid hGl
    have S0 : ST w w ([(w.heap.size, #[.int .i64 a, .int .i64 b, .int .i64 c, .slice (some ⟨bl, off, none⟩) L.length cap], 25), (w.heap.size + 1, #[.int .i64 u, .int .i64 v, .int .i64 t], 22), (w.heap.size + 1 + 1, #[.int .i64 0, .int .i64 0, .int .i64 0, .slice none 0 0], 25), (p2, #[.int .i64 a, .int .i64 b, .int .i64 c, .slice (some ⟨g, 0, none⟩) L.length kp], 25)] : List (Nat × Array Value × TypeId)) g wr G := ⟨hM, ko_below hB, hB⟩
    have hcW := S0.m.cell (b := w.heap.size) (cs := #[.int .i64 a, .int .i64 b, .int .i64 c, .slice (some ⟨bl, off, none⟩) L.length cap]) (t := 25) (by simp)
    by_cases hlt : k < N
    · have s0 : 0 ≤ (k : Int) := by omega
      have s1 : (k : Int) < a * b * c := by omega
      have i1 : (k : Int) < (N : Int) := by omega
      obtain ⟨-, s16, -, -, e0, e1, m0, m4, k0, k4⟩ := div_rng hz s0 s1
      have u0 := Int.emod_nonneg u (show a ≠ 0 by have := hz.a1; omega)
      have u1 := Int.emod_lt_of_pos u (show 0 < a by have := hz.a1; omega)
      have v0 := Int.emod_nonneg v (show b ≠ 0 by have := hz.b1; omega)
      have v1 := Int.emod_lt_of_pos v (show 0 < b by have := hz.b1; omega)
      have t0 := Int.emod_nonneg t (show c ≠ 0 by have := hz.c1; omega)
      have t1 := Int.emod_lt_of_pos t (show 0 < c by have := hz.c1; omega)
      have a4 := hz.a4
      have b4 := hz.b4
      have c4 := hz.c4
      have cM0 := fun W : World => refModulo_any u a W hz.a1 (by omega)
      have cM1 := fun W : World => refModulo_any v b W hz.b1 (by omega)
      have cM2 := fun W : World => refModulo_any t c W hz.c1 (by omega)
      have cP := fun W : World => refSpot_any a b c (k : Int) W hz s0 s1
      have cA := fun W : World => refAt_any a b c ((k : Int) % a + u % a) ((k : Int) / a % b + v % b) ((k : Int) / a / b + t % c) W hz
      have eS : site a b c ((k : Int) % a + u % a) ((k : Int) / a % b + v % b) ((k : Int) / a / b + t % c) = sh a b c u v t (k : Int) := sh_mod a b c u v t k
      rw [eS] at cA
      have hsr := sh_rng hz u v t (k : Int)
      have hq16 : sh a b c u v t (k : Int) < 16 := by omega
      have hv0 := HT.out.g (k : Int) 0 s0 s1 (by omega) (by omega)
      have hv1 := HT.out.g (k : Int) 1 s0 s1 (by omega) (by omega)
      have hv2 := HT.out.g (k : Int) 2 s0 s1 (by omega) (by omega)
      rw [Int.add_zero, Int.add_zero] at hv0
      have i0 : 3 * (k : Int) < (L.length : Int) := by omega
      have i1' : 3 * (k : Int) + 1 < (L.length : Int) := by omega
      have i2 : 3 * (k : Int) + 2 < (L.length : Int) := by omega
      have o0 : 3 * sh a b c u v t (k : Int) < (L.length : Int) := by omega
      have o1 : 3 * sh a b c u v t (k : Int) + 1 < (L.length : Int) := by omega
      have o2 : 3 * sh a b c u v t (k : Int) + 2 < (L.length : Int) := by omega
      have HZ0 := Lib.hid (lk_get (L := L) (i := 3 * (k : Int)) (by omega) i0)
      have HZ1 := Lib.hid (lk_get (L := L) (i := 3 * (k : Int) + 1) (by omega) i1')
      have HZ2 := Lib.hid (lk_get (L := L) (i := 3 * (k : Int) + 2) (by omega) i2)
      have hfin : Filld T (((G.set (3 * sh a b c u v t (k : Int)).toNat (lk L (3 * (k : Int)))).set (3 * sh a b c u v t (k : Int) + 1).toNat (lk L (3 * (k : Int) + 1))).set (3 * sh a b c u v t (k : Int) + 2).toNat (lk L (3 * (k : Int) + 2))) (fun i => ∃ s : Int, 0 ≤ s ∧ s < ((k + 1 : Nat) : Int) ∧ i / 3 = sh a b c u v t s) := by
        rw [← hv0, ← hv1, ← hv2]
        refine (hG.out.three (s := sh a b c u v t (k : Int)) hsr.1 (by rw [HTL.out]; omega)).mono fun i _ hi => ?_
        obtain ⟨s, h0, h1, he⟩ := hi
        by_cases hs : s = (k : Int)
        · right; rw [hs] at he; exact he
        · exact .inl ⟨s, h0, by omega, he⟩
      have HFIN := Lib.hid hfin
      have f0 := hcW 0 rfl
      have f1 := hcW 1 rfl
      have f2 := hcW 2 rfl
      have fl := S0.m.lt (b := w.heap.size) (cs := #[.int .i64 a, .int .i64 b, .int .i64 c, .slice (some ⟨bl, off, none⟩) L.length cap]) (t := 25) (by simp)
      have HK1 : Hid (((k + 1 : Nat) : Int) = (k : Int) + 1) := Lib.hid (by omega)
      generalize lk L (3 * (k : Int)) = z0 at *
      generalize lk L (3 * (k : Int) + 1) = z1 at *
      generalize lk L (3 * (k : Int) + 2) = z2 at *
      generalize sh a b c u v t (k : Int) = qi at *
      generalize (k : Int) % a = pa at *
      generalize (k : Int) / a % b = pb at *
      generalize (k : Int) / a / b = pc at *
      generalize u % a = ua at *
      generalize v % b = ub at *
      generalize t % c = uc2 at *
      generalize hki : (k : Int) = ki at *
      have HKI := Lib.hid hki
      clear hki
      have hq0 : 0 ≤ qi := hsr.1
      have hq1 : 0 ≤ 3 * qi := by omega
      have hq2 : 0 ≤ 3 * qi + 1 := by omega
      have hq3 : 0 ≤ 3 * qi + 2 := by omega
      have hs1 : 0 ≤ 3 * ki := by omega
      have hs2 : 0 ≤ 3 * ki + 1 := by omega
      have hs3 : 0 ≤ 3 * ki + 2 := by omega
      clear hsr hcW hfin eS hv0 hv1 hv2 hGl hG hM hz hN hn s1 hp16
      go_wp2_with (first
        | ((with_reducible refine (cS _).mono ?_); rintro e w3 ⟨rfl, hw3⟩; have hc3 := Tail.cells hw3)
        | ((with_reducible refine (cP _).mono ?_); clear cP; rintro e w5 ⟨rfl, hw5⟩; have hc5 := Tail.cells hw5; have z53 := hw5.size))
      have S1 := S0.below (show Below wr.heap.size wr (w5.alloc (.cells #[.int .i64 pa, .int .i64 pb, .int .i64 pc] 22)) by repeat (first | (with_reducible exact Below.refl _ _) | (with_reducible refine Below.setCell ?_ ?_ _) | (with_reducible refine Below.drew ?_) | (with_reducible refine Below.alloc ?_ ?_ _) | (with_reducible refine Below.trans ?_ (Below.mono hw5 ?_)) | (with_reducible refine Below.trans ?_ (Below.mono hw3 ?_)) | (with_reducible exact hw5.size) | (with_reducible exact hw3.size) | omega | (simp <;> omega) | (simp <;> (have s := hw5.size; omega)) | (simp <;> (have s := hw3.size; omega)) | (have s0 := hw5.size; (try simp at s0); have s1 := hw3.size; (try simp at s1); (try simp); omega)))
      have hP := PB.new w5 pa pb pc 22
      clear hc3 hc5 f0 f1 f2 fl hw3 hw5
      generalize hY : w5.alloc (.cells #[.int .i64 pa, .int .i64 pb, .int .i64 pc] 22) = Y at *
      have hYs : w5.heap.size + 1 = Y.heap.size := by rw [← hY]; simp
      clear hY
      generalize w5.heap.size = Bx at *
      have f0 := S1.m.cell (b := w.heap.size) (cs := #[.int .i64 a, .int .i64 b, .int .i64 c, .slice (some ⟨bl, off, none⟩) L.length cap]) (t := 25) (by simp) 0 rfl
      have f1 := S1.m.cell (b := w.heap.size) (cs := #[.int .i64 a, .int .i64 b, .int .i64 c, .slice (some ⟨bl, off, none⟩) L.length cap]) (t := 25) (by simp) 1 rfl
      have f2 := S1.m.cell (b := w.heap.size) (cs := #[.int .i64 a, .int .i64 b, .int .i64 c, .slice (some ⟨bl, off, none⟩) L.length cap]) (t := 25) (by simp) 2 rfl
      have fl := S1.m.lt (b := w.heap.size) (cs := #[.int .i64 a, .int .i64 b, .int .i64 c, .slice (some ⟨bl, off, none⟩) L.length cap]) (t := 25) (by simp)
      have y0 := S1.m.cell (b := w.heap.size + 1) (cs := #[.int .i64 u, .int .i64 v, .int .i64 t]) (t := 22) (by simp) 0 rfl
      have y1 := S1.m.cell (b := w.heap.size + 1) (cs := #[.int .i64 u, .int .i64 v, .int .i64 t]) (t := 22) (by simp) 1 rfl
      have y2 := S1.m.cell (b := w.heap.size + 1) (cs := #[.int .i64 u, .int .i64 v, .int .i64 t]) (t := 22) (by simp) 2 rfl
      have yl := S1.m.lt (b := w.heap.size + 1) (cs := #[.int .i64 u, .int .i64 v, .int .i64 t]) (t := 22) (by simp)
      have x0 := hP.c0
      have x1 := hP.c1
      have x2 := hP.c2
      have xl := hP.lt
      have kc := @Tail.cell_re; have kc1 : ∀ (W : World) (o : Obj) (d : Nat) (os : Array Obj) (a : Addr), a.block ≤ W.heap.size → (Sort.grow (redrawn (W.alloc o) d) os).cell? a = (W.alloc o).cell? a := fun W o d os a h => Tail.cell_re (W.alloc o) d os a (Nat.lt_of_le_of_lt h (by simp))
      refine Tail.region_below (by kernel_rfl) (by kernel_rfl) ?_
      repeat (go_big_quiet_step (first | (with_reducible exact Calls.regrown_of (cM0 _)) | (with_reducible exact Calls.regrown_of (cM1 _)) | (with_reducible exact Calls.regrown_of (cM2 _)) | (with_reducible exact Calls.regrown_of (cA _))))
      refine wpQuiet_nil ?_
      intro w6 hw6
      have S4 := S1.below hw6
      clear f0 f1 f2 fl y0 y1 y2 yl x0 x1 x2 xl hP
      go_wp2
      refine wp_loop_rounds 4 ?_
      have f0 := S4.m.cell (b := w.heap.size) (cs := #[.int .i64 a, .int .i64 b, .int .i64 c, .slice (some ⟨bl, off, none⟩) L.length cap]) (t := 25) (by simp) 3 rfl
      have f1 := S4.m.cell (b := p2) (cs := #[.int .i64 a, .int .i64 b, .int .i64 c, .slice (some ⟨g, 0, none⟩) L.length kp]) (t := 25) (by simp) 3 rfl
      have f2 := S4.m.lt (b := w.heap.size) (cs := #[.int .i64 a, .int .i64 b, .int .i64 c, .slice (some ⟨bl, off, none⟩) L.length cap]) (t := 25) (by simp)
      have f3 := S4.m.lt (b := p2) (cs := #[.int .i64 a, .int .i64 b, .int .i64 c, .slice (some ⟨g, 0, none⟩) L.length kp]) (t := 25) (by simp)
      obtain ⟨l0, l1, l2, l3, l4⟩ := (H.out.later S4.b) _ _ HZ0.out
      have f4 : bl < _ := World.block_lt_of_cell? _ _ l0
      have hi0 : (3 * qi).toNat < G.length := by (try simp only [List.length_set]); have := HGL.out; omega
      rw [rounds_succ]
      go_wp2
      refine Tail.region_tail_below 15 (by kernel_rfl) (by kernel_rfl) ?_
      simp only [List.take_succ_cons, List.take_zero]
      repeat (go_big_quiet_step (fail))
      refine wpQuiet_nil ?_
      intro w4 hw4
      simp only [List.drop_succ_cons, List.drop_zero]
      have S4 := S4.below hw4
      obtain ⟨g0, g1, g2, g3, g4⟩ := S4.m.l.at (List.getElem?_eq_getElem hi0)
      have gf := S4.m.l.free
      have gl := S4.m.l.lt
      go_wp2
      have S5 : ST w w ([(w.heap.size, #[.int .i64 a, .int .i64 b, .int .i64 c, .slice (some ⟨bl, off, none⟩) L.length cap], 25), (w.heap.size + 1, #[.int .i64 u, .int .i64 v, .int .i64 t], 22), (w.heap.size + 1 + 1, #[.int .i64 0, .int .i64 0, .int .i64 0, .slice none 0 0], 25), (p2, #[.int .i64 a, .int .i64 b, .int .i64 c, .slice (some ⟨g, 0, none⟩) L.length kp], 25)] : List (Nat × Array Value × TypeId)) g (((((w4.setCell ⟨g, (3 * qi).toNat * 5, none⟩ (.int .i64 z0.a)).setCell ⟨g, (3 * qi).toNat * 5 + 1, none⟩ (.int .i64 z0.b)).setCell ⟨g, (3 * qi).toNat * 5 + 2, none⟩ (.int .i64 z0.c)).setCell ⟨g, (3 * qi).toNat * 5 + 3, none⟩ (.int .i64 z0.d)).setCell ⟨g, (3 * qi).toNat * 5 + 4, none⟩ (.int .i64 z0.n)) (G.set (3 * qi).toNat z0) := S4.put (by omega) (3 * qi).toNat hi0 z0
      generalize ((((w4.setCell ⟨g, (3 * qi).toNat * 5, none⟩ (.int .i64 z0.a)).setCell ⟨g, (3 * qi).toNat * 5 + 1, none⟩ (.int .i64 z0.b)).setCell ⟨g, (3 * qi).toNat * 5 + 2, none⟩ (.int .i64 z0.c)).setCell ⟨g, (3 * qi).toNat * 5 + 3, none⟩ (.int .i64 z0.d)).setCell ⟨g, (3 * qi).toNat * 5 + 4, none⟩ (.int .i64 z0.n) = X5 at *
      clear S4 g0 g1 g2 g3 g4 gf gl hw4 f0 f1 f2 f3 f4 l0 l1 l2 l3 l4
      have f0 := S5.m.cell (b := w.heap.size) (cs := #[.int .i64 a, .int .i64 b, .int .i64 c, .slice (some ⟨bl, off, none⟩) L.length cap]) (t := 25) (by simp) 3 rfl
      have f1 := S5.m.cell (b := p2) (cs := #[.int .i64 a, .int .i64 b, .int .i64 c, .slice (some ⟨g, 0, none⟩) L.length kp]) (t := 25) (by simp) 3 rfl
      have f2 := S5.m.lt (b := w.heap.size) (cs := #[.int .i64 a, .int .i64 b, .int .i64 c, .slice (some ⟨bl, off, none⟩) L.length cap]) (t := 25) (by simp)
      have f3 := S5.m.lt (b := p2) (cs := #[.int .i64 a, .int .i64 b, .int .i64 c, .slice (some ⟨g, 0, none⟩) L.length kp]) (t := 25) (by simp)
      obtain ⟨l0, l1, l2, l3, l4⟩ := (H.out.later S5.b) _ _ HZ1.out
      have f4 : bl < _ := World.block_lt_of_cell? _ _ l0
      have hi1 : (3 * qi + 1).toNat < (G.set (3 * qi).toNat z0).length := by (try simp only [List.length_set]); have := HGL.out; omega
      rw [rounds_succ]
      go_wp2
      refine Tail.region_tail_below 15 (by kernel_rfl) (by kernel_rfl) ?_
      simp only [List.take_succ_cons, List.take_zero]
      repeat (go_big_quiet_step (fail))
      refine wpQuiet_nil ?_
      intro w4 hw4
      simp only [List.drop_succ_cons, List.drop_zero]
      have S4 := S5.below hw4
      obtain ⟨g0, g1, g2, g3, g4⟩ := S4.m.l.at (List.getElem?_eq_getElem hi1)
      have gf := S4.m.l.free
      have gl := S4.m.l.lt
      go_wp2
      have S6 : ST w w ([(w.heap.size, #[.int .i64 a, .int .i64 b, .int .i64 c, .slice (some ⟨bl, off, none⟩) L.length cap], 25), (w.heap.size + 1, #[.int .i64 u, .int .i64 v, .int .i64 t], 22), (w.heap.size + 1 + 1, #[.int .i64 0, .int .i64 0, .int .i64 0, .slice none 0 0], 25), (p2, #[.int .i64 a, .int .i64 b, .int .i64 c, .slice (some ⟨g, 0, none⟩) L.length kp], 25)] : List (Nat × Array Value × TypeId)) g (((((w4.setCell ⟨g, (3 * qi + 1).toNat * 5, none⟩ (.int .i64 z1.a)).setCell ⟨g, (3 * qi + 1).toNat * 5 + 1, none⟩ (.int .i64 z1.b)).setCell ⟨g, (3 * qi + 1).toNat * 5 + 2, none⟩ (.int .i64 z1.c)).setCell ⟨g, (3 * qi + 1).toNat * 5 + 3, none⟩ (.int .i64 z1.d)).setCell ⟨g, (3 * qi + 1).toNat * 5 + 4, none⟩ (.int .i64 z1.n)) ((G.set (3 * qi).toNat z0).set (3 * qi + 1).toNat z1) := S4.put (by omega) (3 * qi + 1).toNat hi1 z1
      generalize ((((w4.setCell ⟨g, (3 * qi + 1).toNat * 5, none⟩ (.int .i64 z1.a)).setCell ⟨g, (3 * qi + 1).toNat * 5 + 1, none⟩ (.int .i64 z1.b)).setCell ⟨g, (3 * qi + 1).toNat * 5 + 2, none⟩ (.int .i64 z1.c)).setCell ⟨g, (3 * qi + 1).toNat * 5 + 3, none⟩ (.int .i64 z1.d)).setCell ⟨g, (3 * qi + 1).toNat * 5 + 4, none⟩ (.int .i64 z1.n) = X6 at *
      clear S4 g0 g1 g2 g3 g4 gf gl hw4 f0 f1 f2 f3 f4 l0 l1 l2 l3 l4
      have f0 := S6.m.cell (b := w.heap.size) (cs := #[.int .i64 a, .int .i64 b, .int .i64 c, .slice (some ⟨bl, off, none⟩) L.length cap]) (t := 25) (by simp) 3 rfl
      have f1 := S6.m.cell (b := p2) (cs := #[.int .i64 a, .int .i64 b, .int .i64 c, .slice (some ⟨g, 0, none⟩) L.length kp]) (t := 25) (by simp) 3 rfl
      have f2 := S6.m.lt (b := w.heap.size) (cs := #[.int .i64 a, .int .i64 b, .int .i64 c, .slice (some ⟨bl, off, none⟩) L.length cap]) (t := 25) (by simp)
      have f3 := S6.m.lt (b := p2) (cs := #[.int .i64 a, .int .i64 b, .int .i64 c, .slice (some ⟨g, 0, none⟩) L.length kp]) (t := 25) (by simp)
      obtain ⟨l0, l1, l2, l3, l4⟩ := (H.out.later S6.b) _ _ HZ2.out
      have f4 : bl < _ := World.block_lt_of_cell? _ _ l0
      have hi2 : (3 * qi + 2).toNat < ((G.set (3 * qi).toNat z0).set (3 * qi + 1).toNat z1).length := by (try simp only [List.length_set]); have := HGL.out; omega
      rw [rounds_succ]
      go_wp2
      refine Tail.region_tail_below 15 (by kernel_rfl) (by kernel_rfl) ?_
      simp only [List.take_succ_cons, List.take_zero]
      repeat (go_big_quiet_step (fail))
      refine wpQuiet_nil ?_
      intro w4 hw4
      simp only [List.drop_succ_cons, List.drop_zero]
      have S4 := S6.below hw4
      obtain ⟨g0, g1, g2, g3, g4⟩ := S4.m.l.at (List.getElem?_eq_getElem hi2)
      have gf := S4.m.l.free
      have gl := S4.m.l.lt
      go_wp2
      have S7 : ST w w ([(w.heap.size, #[.int .i64 a, .int .i64 b, .int .i64 c, .slice (some ⟨bl, off, none⟩) L.length cap], 25), (w.heap.size + 1, #[.int .i64 u, .int .i64 v, .int .i64 t], 22), (w.heap.size + 1 + 1, #[.int .i64 0, .int .i64 0, .int .i64 0, .slice none 0 0], 25), (p2, #[.int .i64 a, .int .i64 b, .int .i64 c, .slice (some ⟨g, 0, none⟩) L.length kp], 25)] : List (Nat × Array Value × TypeId)) g (((((w4.setCell ⟨g, (3 * qi + 2).toNat * 5, none⟩ (.int .i64 z2.a)).setCell ⟨g, (3 * qi + 2).toNat * 5 + 1, none⟩ (.int .i64 z2.b)).setCell ⟨g, (3 * qi + 2).toNat * 5 + 2, none⟩ (.int .i64 z2.c)).setCell ⟨g, (3 * qi + 2).toNat * 5 + 3, none⟩ (.int .i64 z2.d)).setCell ⟨g, (3 * qi + 2).toNat * 5 + 4, none⟩ (.int .i64 z2.n)) (((G.set (3 * qi).toNat z0).set (3 * qi + 1).toNat z1).set (3 * qi + 2).toNat z2) := S4.put (by omega) (3 * qi + 2).toNat hi2 z2
      generalize ((((w4.setCell ⟨g, (3 * qi + 2).toNat * 5, none⟩ (.int .i64 z2.a)).setCell ⟨g, (3 * qi + 2).toNat * 5 + 1, none⟩ (.int .i64 z2.b)).setCell ⟨g, (3 * qi + 2).toNat * 5 + 2, none⟩ (.int .i64 z2.c)).setCell ⟨g, (3 * qi + 2).toNat * 5 + 3, none⟩ (.int .i64 z2.d)).setCell ⟨g, (3 * qi + 2).toNat * 5 + 4, none⟩ (.int .i64 z2.n) = X7 at *
      clear S4 g0 g1 g2 g3 g4 gf gl hw4 f0 f1 f2 f3 f4 l0 l1 l2 l3 l4
      rw [rounds_succ]
      go_wp2
      refine ⟨⟨k + 1, _, by omega, by rw [HK1.out], S7.m, HFIN, S7.b⟩, ?_⟩
      have := HKI.out
      simp [intOf]
      omega
    · obtain rfl : k = N := by omega
      have hGT : G = T := hG.out.full fun i i0 i1 => by
        rw [HTL.out, hn] at i1
        obtain ⟨s, s0, s1, he⟩ := sh_ex hz u v t (t := i / 3) (by omega) (by omega)
        exact ⟨s, s0, by omega, he.symm⟩
      subst hGT
      have f0 := hcW 0 rfl
      have f1 := hcW 1 rfl
      have f2 := hcW 2 rfl
      have fl := S0.m.lt (b := w.heap.size) (cs := #[.int .i64 a, .int .i64 b, .int .i64 c, .slice (some ⟨bl, off, none⟩) L.length cap]) (t := 25) (by simp)
      clear hcW hG hz hn hN hp16
      go_wp2_with ((with_reducible refine (cS _).mono ?_); rintro e w3 ⟨rfl, hw3⟩; have S3 := S0.below hw3; have e0 := S3.m.cell (b := p2) (cs := #[.int .i64 a, .int .i64 b, .int .i64 c, .slice (some ⟨g, 0, none⟩) L.length kp]) (t := 25) (by simp) 0 rfl; have e1 := S3.m.cell (b := p2) (cs := #[.int .i64 a, .int .i64 b, .int .i64 c, .slice (some ⟨g, 0, none⟩) L.length kp]) (t := 25) (by simp) 1 rfl; have e2 := S3.m.cell (b := p2) (cs := #[.int .i64 a, .int .i64 b, .int .i64 c, .slice (some ⟨g, 0, none⟩) L.length kp]) (t := 25) (by simp) 2 rfl; have e3 := S3.m.cell (b := p2) (cs := #[.int .i64 a, .int .i64 b, .int .i64 c, .slice (some ⟨g, 0, none⟩) L.length kp]) (t := 25) (by simp) 3 rfl; have r0 := S3.m.cell (b := w.heap.size + 1 + 1) (cs := #[.int .i64 0, .int .i64 0, .int .i64 0, .slice none 0 0]) (t := 25) (by simp) 0 rfl; have r1 := S3.m.cell (b := w.heap.size + 1 + 1) (cs := #[.int .i64 0, .int .i64 0, .int .i64 0, .slice none 0 0]) (t := 25) (by simp) 1 rfl; have r2 := S3.m.cell (b := w.heap.size + 1 + 1) (cs := #[.int .i64 0, .int .i64 0, .int .i64 0, .slice none 0 0]) (t := 25) (by simp) 2 rfl; have r3 := S3.m.cell (b := w.heap.size + 1 + 1) (cs := #[.int .i64 0, .int .i64 0, .int .i64 0, .slice none 0 0]) (t := 25) (by simp) 3 rfl; have rf := S3.m.free (b := w.heap.size + 1 + 1) (cs := #[.int .i64 0, .int .i64 0, .int .i64 0, .slice none 0 0]) (t := 25) (by simp); have rl := S3.m.lt (b := w.heap.size + 1 + 1) (cs := #[.int .i64 0, .int .i64 0, .int .i64 0, .slice none 0 0]) (t := 25) (by simp))
      have gX := grown_setCells (w.heap.size + 1 + 1) [.int .i64 a, .int .i64 b, .int .i64 c, .slice (some ⟨g, 0, none⟩) L.length kp] 0 w3
      have hLX := S3.m.l.grown gX (by simp; omega)
      have hBX := S3.b.grown gX S3.b.size (fun j e => by cases e; omega)
      refine bodyPost_ret (v := .tuple #[.agg #[.int .i64 a, .int .i64 b, .int .i64 c, .slice (some ⟨g, 0, none⟩) L.length kp], .int .i64 0]) ?_ rfl ⟨g, kp, rfl, hLX.h, hBX⟩
      simp [results, Try.results20, go_sem, r0, r1, r2, r3]

set_option maxHeartbeats 800000 in
theorem refShift_bad (a b c u v t r : Int) (ao : Option Addr) (cap : Nat) (L : List Q) (w : World) (h : LiesO w ao L) (hr : fldR a b c L r) (hlen : L.length ≤ 1000000) (hne : (r == 0) = false) (hne' : (r != 0) = true) :
    Calls Try.prog 20 #[.agg #[.int .i64 a, .int .i64 b, .int .i64 c, .slice ao L.length cap], .agg #[.int .i64 u, .int .i64 v, .int .i64 t]] w fun e w' => e = .returned (.tuple #[.agg #[.int .i64 0, .int .i64 0, .int .i64 0, .slice none 0 0], .int .i64 r]) ∧ Below w.heap.size w w' := by
  have cV := fun (W : World) (h : LiesO W ao L) => refValidateF_any a b c r ao cap L W h hr hlen
  have H := Lib.hid h
  clear h hr
  go_enter Try.func20, Try.ntmps20
  go_wp2_with ((with_reducible refine (cV _ (H.out.later (by repeat (first | (with_reducible exact Below.refl _ _) | (with_reducible refine Below.setCell ?_ ?_ _) | (with_reducible refine Below.drew ?_) | (with_reducible refine Below.alloc ?_ ?_ _) | omega | (simp <;> omega))))).mono ?_); rintro e w1 ⟨rfl, hw1⟩; have hc := Tail.cells hw1; have zw10 := Nat.lt_of_lt_of_le (n := w.heap.size) (by simp <;> omega) hw1.size; have zw11 := Nat.lt_of_lt_of_le (n := w.heap.size + 1) (by simp <;> omega) hw1.size; have zw12 := Nat.lt_of_lt_of_le (n := w.heap.size + 2) (by simp <;> omega) hw1.size)
  refine bodyPost_ret (v := .tuple #[.agg #[.int .i64 0, .int .i64 0, .int .i64 0, .slice none 0 0], .int .i64 r]) ?_ rfl ⟨rfl, ?_⟩
  · simp [results, Try.results20, go_sem, hc, zw10, zw11, zw12]
  · repeat (first | (with_reducible exact Below.refl _ _) | (with_reducible refine Below.setCell ?_ ?_ _) | (with_reducible refine Below.drew ?_) | (with_reducible refine Below.alloc ?_ ?_ _) | (with_reducible refine Below.trans ?_ (Below.mono hw1 ?_)) | (with_reducible exact hw1.size) | omega | (simp <;> omega) | (simp <;> (have s := hw1.size; omega)) | (have s0 := hw1.size; (try simp at s0); (try simp); omega))
end Go.Proofs.Ytmmkhkkmgjighaa
