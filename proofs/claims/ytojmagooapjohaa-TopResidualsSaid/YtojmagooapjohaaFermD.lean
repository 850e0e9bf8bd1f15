/- The hopping of a vector, as the document's answers make it.
Conditions: the field is valid and small, its links and the vector lie in memory. -/
import Derived.Test.YtojmagooapjohaaFermB
import Derived.Test.YtojmagooapjohaaFermM
import Derived.Deep.RegionHeld3
import Derived.Test.YtojmagooapjohaaNumber
namespace Go.Proofs.Ytojmagooapjohaa
set_option linter.unusedVariables false
set_option linter.unusedSimpArgs false
set_option maxRecDepth 1000000
open Go.RowKit
open Um Tm Fm

theorem val_one (p t m : Sp) (σ : Int) : (addS p.w (smS σ (mulS t.w m).w)).w = (addS p (mulS (smS σ t) m)).w := by
  rw [mulS_w_l, addS_w_l, mulS_sm, ← addS_w_r p (smS σ (mulS t m).w), smS_w, addS_w_r]
theorem val_two (p t m : Sp) (σ : Int) : (addS p.w (smS (-σ) (mulS (conS t).w m).w)).w = (addS p (mulS (flipS (smS σ t)) m)).w := by
  rw [val_one, flip_sm]
theorem grown_four (w : World) (g s : Nat) (y : Sp) : w.grownBy ((((w.setCell ⟨g, s * 4, none⟩ (.int .i64 y.a)).setCell ⟨g, s * 4 + 1, none⟩ (.int .i64 y.b)).setCell ⟨g, s * 4 + 2, none⟩ (.int .i64 y.c)).setCell ⟨g, s * 4 + 3, none⟩ (.int .i64 y.d)) (some g) :=
  (((grown_setCell w ⟨g, s * 4, none⟩ _).trans (grown_setCell _ ⟨g, s * 4 + 1, none⟩ _)).trans (grown_setCell _ ⟨g, s * 4 + 2, none⟩ _)).trans (grown_setCell _ ⟨g, s * 4 + 3, none⟩ _)
theorem sg3_rng (a b d s : Int) : -1 ≤ sg3 a b d s ∧ sg3 a b d s ≤ 1 := by
  unfold sg3
  split
  · omega
  · split <;> omega
theorem fac_at (a b c : Int) {L : List Q} {k : Nat} {u : Q} (h : L[k]? = some u) : arms a b c L (k + 1) = arms a b c L k ++ [⟨k / 3, nxl a b c k, smS (sg3 a b ((k : Int) % 3) ((k : Int) / 3)) (tw u)⟩] ++ [⟨nxl a b c k, k / 3, flipS (smS (sg3 a b ((k : Int) % 3) ((k : Int) / 3)) (tw u))⟩] := by
  show arms a b c L k ++ [arm1 a b c L k] ++ [arm2 a b c L k] = _
  unfold arm1 arm2
  rw [fac_eq a b h]
set_option maxHeartbeats 6400000 in
theorem refHop_any (a b c : Int) (bl off cap pb po pc n : Nat) (L : List Q) (M : List Sp) (w : World) (hF : Fld7 a b c L n) (hL : Lies w bl off L) (hM : LiesI w pb po (fl M)) (hn : M.length = n) : Calls Try.prog 147 #[.agg #[.int .i64 a, .int .i64 b, .int .i64 c, .slice (some ⟨bl, off, none⟩) L.length cap], .slice (some ⟨pb, po, none⟩) n pc] w fun e w' => (∃ g k : Nat, e = .returned (.slice (some ⟨g, 0, none⟩) n k) ∧ IBox w' g (fl (hopL n (arms a b c L L.length) M)) ∧ w.heap.size ≤ g) ∧ Below w.heap.size w w' := by
  have hps := hF.pos
  have HFF := Lib.hid hF
  have HL := Lib.hid hL
  have HM := Lib.hid hM
  have HN := Lib.hid hn
  have hl := hF.l
  have hL48 : L.length ≤ 48 := by omega
  have HLN := Lib.hid hl
  have hlm := fl_lt hM (by omega)
  have hll : bl < w.heap.size := World.block_lt_of_cell? _ _ (hL 0 _ (List.getElem?_eq_getElem (by omega))).1
  have mk := fun (W : World) => makeS W n n rfl (by omega)
  have HF0 := Lib.hid (show FBox ((w.alloc (.cells #[.int .i64 a, .int .i64 b, .int .i64 c, .slice (some ⟨bl, off, none⟩) L.length cap] 25)).alloc (.cells (madeCells sz.toArray (n * 4)) 95)) w.heap.size a b c (.slice (some ⟨bl, off, none⟩) L.length cap) by
    refine FBox.later ?_ ((Below.refl _ _).alloc (Nat.le_refl _) _)
    exact ⟨by simp [go_sem], by simp [go_sem], by simp [go_sem], by simp [go_sem], by simp⟩)
  have hg0 : (w.alloc (.cells #[.int .i64 a, .int .i64 b, .int .i64 c, .slice (some ⟨bl, off, none⟩) L.length cap] 25)).heap.size = w.heap.size + 1 := by simp
  have k0 : IBox ((w.alloc (.cells #[.int .i64 a, .int .i64 b, .int .i64 c, .slice (some ⟨bl, off, none⟩) L.length cap] 25)).alloc (.cells (madeCells sz.toArray (n * 4)) 95)) (w.heap.size + 1) (fl (hopL n (arms a b c L 0) M)) := by
    rw [show arms a b c L 0 = [] from rfl, hopL_nil, ← hg0]
    exact IBox.madeS (T := 95) (heap_alloc_new _ _) (by simp)
  have K0 := Lib.hid k0
  have HB0 := Lib.hid (show Below w.heap.size w ((w.alloc (.cells #[.int .i64 a, .int .i64 b, .int .i64 c, .slice (some ⟨bl, off, none⟩) L.length cap] 25)).alloc (.cells (madeCells sz.toArray (n * 4)) 95)) by repeat (first | (with_reducible exact Below.refl _ _) | (with_reducible refine Below.setCell ?_ ?_ _) | (with_reducible refine Below.drew ?_) | (with_reducible refine Below.alloc ?_ ?_ _) | omega | (simp <;> omega)))
  clear hF hL hM hn hl hg0 k0
  have kc := @Tail.cell_re
  have kc1 : ∀ (W : World) (o : Obj) (d : Nat) (os : Array Obj) (a : Addr), a.block ≤ W.heap.size → (Sort.grow (redrawn (W.alloc o) d) os).cell? a = (W.alloc o).cell? a := fun W o d os a h => Tail.cell_re (W.alloc o) d os a (Nat.lt_of_le_of_lt h (by simp))
  go_enter Try.func147, Try.ntmps147
  go_wp2
  generalize (w.alloc (.cells #[.int .i64 a, .int .i64 b, .int .i64 c, .slice (some ⟨bl, off, none⟩) L.length cap] 25)).alloc (.cells (madeCells sz.toArray (n * 4)) 95) = W0 at *
  go_loopw [6, 7, 8, 9] (fun q _ _ _ wr => ∃ k : Nat, k ≤ L.length ∧ q = .int .i64 k ∧ Hid (FBox wr w.heap.size a b c (.slice (some ⟨bl, off, none⟩) L.length cap)) ∧ Hid (IBox wr (w.heap.size + 1) (fl (hopL n (arms a b c L k) M))) ∧ Hid (Below w.heap.size w wr)) (fun q _ _ _ _ => L.length - (intOf q).toNat)
  case atStart => exact ⟨0, by omega, rfl, HF0, K0, HB0⟩
  case round =>
    obtain ⟨k, hk, rfl, hf, hx, hb⟩ := hrel
    clear HF0 K0 HB0
    obtain ⟨f0, f1, f2, f3, flt⟩ := hf.out
    by_cases hlt : k < L.length
    · have i1 : (k : Int) < (L.length : Int) := by omega
      have hu : L[k]? = some L[k] := List.getElem?_eq_getElem hlt
      obtain ⟨l0, l1, l2, l3, l4⟩ := HL.out.later hb.out k _ hu
      have hs0 : k / 3 < n := by have := HLN.out; omega
      have hsI : (k : Int) / 3 < a * b * c := by rw [← HFF.out.e]; omega
      have hny := nxl_rng HFF.out.z k
      have hyn : nxl a b c k < n := by have := HFF.out.e; omega
      obtain ⟨hN, rb, rc, rd⟩ := HFF.out.s k _ hu
      have ca := fun W : World => ahead_any a b c ((k : Int) / 3) ((k : Int) % 3) W HFF.out.z (by omega) hsI (by omega) (by omega)
      have ct := fun W : World => refTwice7_any L[k] W hN
      have cb := fun W : World => bar4_any L[k] W (.inr trivial) rb rc rd
      have ct2 := fun W : World => refTwice7_any (bar L[k]) W hN
      have cs := fun W : World => sign7_any a b c ((k : Int) / 3) ((k : Int) % 3) W HFF.out.z (by omega) hsI (by omega) (by omega)
      have cs2 := fun W : World => sign7_any a b c (nx a b c ((k : Int) / 3) ((k : Int) % 3 + 1)) ((k : Int) % 3) W HFF.out.z (nx_rng HFF.out.z _ _).1 (nx_rng HFF.out.z _ _).2 (by omega) (by omega)
      rw [sg3_next HFF.out.z (by omega) hsI (by omega) (by omega)] at cs2
      have ey : nx a b c ((k : Int) / 3) ((k : Int) % 3 + 1) = ((nxl a b c k : Nat) : Int) := by rw [hny.1]; simp
      rw [ey] at ca cs2
      rw [tw_bar] at ct2
      have hA := fac_at a b c hu
      obtain ⟨q1, q2⟩ := sg3_rng a b ((k : Int) % 3) ((k : Int) / 3)
      clear hN rb rc rd hu hny ey
      generalize L[k] = u at *
      generalize nxl a b c k = y at *
      generalize sg3 a b ((k : Int) % 3) ((k : Int) / 3) = σ at *
      have HA := Lib.hid hA
      have i4 : (k : Int) / 3 < (n : Int) := by omega
      have i5 : (0 : Int) ≤ (k : Int) / 3 := by omega
      have i6 : (y : Int) < (n : Int) := by omega
      have n1 : ((k : Int) / 3).toNat = k / 3 := by omega
      have e1 : (k : Int).tmod 3 = (k : Int) % 3 := Int.tmod_eq_emod_of_nonneg (by omega)
      have e2 : IntKind.i64.wrap (-σ) = -σ := IntWalk.i64_in _ (by omega)
      have hym : y < M.length := by have := HN.out; omega
      have hxm : k / 3 < M.length := by have := HN.out; omega
      have eY : at0 M y = M[y] := at0_of (List.getElem?_eq_getElem hym)
      have eX : at0 M (k / 3) = M[k / 3] := at0_of (List.getElem?_eq_getElem hxm)
      have hmy := Lib.hid (fun (W : World) (h : LiesI W pb po (fl M)) => four_at h (List.getElem?_eq_getElem hym))
      have hmx := Lib.hid (fun (W : World) (h : LiesI W pb po (fl M)) => four_at h (List.getElem?_eq_getElem hxm))
      have hq1 := hopL_at (arms a b c L k) M hs0
      have hq2 := hopL_at (arms a b c L k ++ [⟨k / 3, y, smS σ (tw u)⟩]) M hyn
      have S1 := hopL_snoc (n := n) (arms a b c L k) ⟨k / 3, y, smS σ (tw u)⟩ M _ hs0 rfl
      have S2 := hopL_snoc (n := n) (arms a b c L k ++ [⟨k / 3, y, smS σ (tw u)⟩]) ⟨y, k / 3, flipS (smS σ (tw u))⟩ M _ hyn rfl
      dsimp only at S1 S2
      rw [← hA] at S2
      have v1 := val_one (accS M (row (arms a b c L k) (k / 3))) (tw u) M[y] σ
      have v2 := val_two (accS M (row (arms a b c L k ++ [⟨k / 3, y, smS σ (tw u)⟩]) y)) (tw u) M[k / 3] σ
      rw [eY] at S1
      rw [eX] at S2
      have cm := fun W : World => refTimes7_any (tw u).w M[y] W
      have cm2 := fun W : World => refTimes7_any (conS (tw u)).w M[k / 3] W
      have cA := fun W : World => refAdd7_any (accS M (row (arms a b c L k) (k / 3))).w (mulS (tw u).w M[y]).w σ W
      have cA2 := fun W : World => refAdd7_any (accS M (row (arms a b c L k ++ [⟨k / 3, y, smS σ (tw u)⟩]) y)).w (mulS (conS (tw u)).w M[k / 3]).w (-σ) W
      rw [v1] at cA
      rw [v2] at cA2
      generalize arms a b c L k ++ [⟨k / 3, y, smS σ (tw u)⟩] = A1 at *
      generalize (addS (accS M (row (arms a b c L k) (k / 3))) (mulS (smS σ (tw u)) M[y])).w = V1 at *
      generalize (addS (accS M (row A1 y)) (mulS (flipS (smS σ (tw u))) M[k / 3])).w = V2 at *
      generalize (mulS (tw u).w M[y]).w = r1 at *
      generalize (mulS (conS (tw u)).w M[k / 3]).w = r2 at *
      generalize (accS M (row (arms a b c L k) (k / 3))).w = p1 at *
      generalize (accS M (row A1 y)).w = p2 at *
      generalize (tw u).w = t1 at *
      generalize (conS (tw u)).w = t2 at *
      generalize M[y] = my at *
      generalize M[k / 3] = mx at *
      have HS1 := Lib.hid S1
      have HS2 := Lib.hid S2
      have HQ1 := Lib.hid hq1
      have HQ2 := Lib.hid hq2
      clear v1 v2 eX eY hq1 hq2 hA S1 S2
      have hlw : bl < wr.heap.size := by omega
      go_wp2_with ((with_reducible refine (ca _).mono ?_); clear ca; rintro e w1 ⟨rfl, hw1⟩; have hc1 := Tail.cells hw1)
      have bW : Below wr.heap.size wr (w1.alloc (.cells #[.int .i64 u.a, .int .i64 u.b, .int .i64 u.c, .int .i64 u.d, .int .i64 u.n] 36)) := by repeat (first | (with_reducible exact Below.refl _ _) | (with_reducible refine Below.setCell ?_ ?_ _) | (with_reducible refine Below.drew ?_) | (with_reducible refine Below.alloc ?_ ?_ _) | (with_reducible refine Below.trans ?_ (Below.mono hw1 ?_)) | (with_reducible exact hw1.size) | omega | (simp <;> omega) | (simp <;> (have s := hw1.size; omega)) | (have s0 := hw1.size; (try simp at s0); (try simp); omega))
      have F1 := Lib.hid (hf.out.later bW)
      have X1 := Lib.hid (hx.out.later bW)
      have B1 := Lib.hid (hb.out.trans (bW.mono hb.out.size))
      have u0 : (w1.alloc (.cells #[.int .i64 u.a, .int .i64 u.b, .int .i64 u.c, .int .i64 u.d, .int .i64 u.n] 36)).cell? ⟨w1.heap.size, 0, none⟩ = some (.int .i64 u.a) := by simp [go_sem]
      have u1 : (w1.alloc (.cells #[.int .i64 u.a, .int .i64 u.b, .int .i64 u.c, .int .i64 u.d, .int .i64 u.n] 36)).cell? ⟨w1.heap.size, 1, none⟩ = some (.int .i64 u.b) := by simp [go_sem]
      have u2 : (w1.alloc (.cells #[.int .i64 u.a, .int .i64 u.b, .int .i64 u.c, .int .i64 u.d, .int .i64 u.n] 36)).cell? ⟨w1.heap.size, 2, none⟩ = some (.int .i64 u.c) := by simp [go_sem]
      have u3 : (w1.alloc (.cells #[.int .i64 u.a, .int .i64 u.b, .int .i64 u.c, .int .i64 u.d, .int .i64 u.n] 36)).cell? ⟨w1.heap.size, 3, none⟩ = some (.int .i64 u.d) := by simp [go_sem]
      have u4 : (w1.alloc (.cells #[.int .i64 u.a, .int .i64 u.b, .int .i64 u.c, .int .i64 u.d, .int .i64 u.n] 36)).cell? ⟨w1.heap.size, 4, none⟩ = some (.int .i64 u.n) := by simp [go_sem]
      have ult : w1.heap.size < (w1.alloc (.cells #[.int .i64 u.a, .int .i64 u.b, .int .i64 u.c, .int .i64 u.d, .int .i64 u.n] 36)).heap.size := by simp
      have hgu : w.heap.size + 1 < w1.heap.size := by have := hx.out.lt; have := hw1.size; omega
      clear f0 f1 f2 f3 flt l0 l1 l2 l3 l4 hf hx hb bW hw1 hc1 hlw
      generalize w1.alloc (.cells #[.int .i64 u.a, .int .i64 u.b, .int .i64 u.c, .int .i64 u.d, .int .i64 u.n] 36) = W1 at *
      generalize w1.heap.size = ub at *
      obtain ⟨f0, f1, f2, f3, flt⟩ := F1.out
      obtain ⟨x0, x1, x2, x3⟩ := X1.out.four HQ1.out
      have xlt := X1.out.lt
      obtain ⟨y0, y1, y2, y3⟩ := hmy.out _ (HM.out.later B1.out)
      have plt : pb < W1.heap.size := World.block_lt_of_cell? _ _ y0
      refine Tail.region_tail_below 20 (by kernel_rfl) (by kernel_rfl) ?_
      simp only [List.take_succ_cons, List.take_zero, List.drop_succ_cons, List.drop_zero]
      repeat (go_big_quiet_step (first | (with_reducible exact Calls.regrown_of (ct _)) | (with_reducible exact Calls.regrown_of (cm _)) | (with_reducible exact Calls.regrown_of (cs _)) | (with_reducible exact Calls.regrown_of (cA _))))
      refine wpQuiet_nil ?_
      intro w2 hw2
      have F2 := Lib.hid (F1.out.later hw2)
      have X2 := Lib.hid (X1.out.later hw2)
      have B2 := Lib.hid (B1.out.trans (hw2.mono B1.out.size))
      have tr : ∀ (o : Nat) (v : Value), W1.cell? ⟨ub, o, none⟩ = some v → w2.cell? ⟨ub, o, none⟩ = some v := fun o v h => (hw2.cell (p := ⟨ub, o, none⟩) ult).trans h
      have d0 := tr _ _ u0
      have d1 := tr _ _ u1
      have d2 := tr _ _ u2
      have d3 := tr _ _ u3
      have d4 := tr _ _ u4
      have dlt : ub < w2.heap.size := Nat.lt_of_lt_of_le ult hw2.size
      clear tr u0 u1 u2 u3 u4 ult f0 f1 f2 f3 flt x0 x1 x2 x3 xlt y0 y1 y2 y3 plt hw2
      obtain ⟨x0, x1, x2, x3⟩ := X2.out.four HQ1.out
      have xf := X2.out.free
      go_wp2
      have G3 := grown_four w2 (w.heap.size + 1) (k / 3) V1
      have X3 := X2.out.put4 (s := k / 3) (by rw [hopL_len]; exact hs0) V1
      rw [HS1.out] at X3
      have F3 := Lib.hid (F2.out.grown G3 (by simp))
      have B3 := Lib.hid (B2.out.grown G3 B2.out.size (fun j hj => by simp at hj; omega))
      have u0 := G3.cell d0 (by simp; omega)
      have u1 := G3.cell d1 (by simp; omega)
      have u2 := G3.cell d2 (by simp; omega)
      have u3 := G3.cell d3 (by simp; omega)
      have u4 := G3.cell d4 (by simp; omega)
      have ult := Nat.lt_of_lt_of_le dlt G3.size
      have HX3 := Lib.hid X3
      clear G3 X3 d0 d1 d2 d3 d4 dlt x0 x1 x2 x3 xf
      generalize (((w2.setCell ⟨w.heap.size + 1, k / 3 * 4, none⟩ (.int .i64 V1.a)).setCell ⟨w.heap.size + 1, k / 3 * 4 + 1, none⟩ (.int .i64 V1.b)).setCell ⟨w.heap.size + 1, k / 3 * 4 + 2, none⟩ (.int .i64 V1.c)).setCell ⟨w.heap.size + 1, k / 3 * 4 + 3, none⟩ (.int .i64 V1.d) = W3 at *
      obtain ⟨f0, f1, f2, f3, flt⟩ := F3.out
      obtain ⟨x0, x1, x2, x3⟩ := HX3.out.four HQ2.out
      have xlt := HX3.out.lt
      obtain ⟨y0, y1, y2, y3⟩ := hmx.out _ (HM.out.later B3.out)
      have plt : pb < W3.heap.size := World.block_lt_of_cell? _ _ y0
      refine Tail.region_tail_below 22 (by kernel_rfl) (by kernel_rfl) ?_
      simp only [List.take_succ_cons, List.take_zero, List.drop_succ_cons, List.drop_zero]
      repeat (go_big_quiet_step (first | (with_reducible exact Calls.regrown_of (cb _)) | (with_reducible exact Calls.regrown_of (ct2 _)) | (with_reducible exact Calls.regrown_of (cm2 _)) | (with_reducible exact Calls.regrown_of (cs2 _)) | (with_reducible exact Calls.regrown_of (cA2 _))))
      refine wpQuiet_nil ?_
      intro w4 hw4
      have F4 := Lib.hid (F3.out.later hw4)
      have X4 := Lib.hid (HX3.out.later hw4)
      have B4 := Lib.hid (B3.out.trans (hw4.mono B3.out.size))
      clear u0 u1 u2 u3 u4 ult f0 f1 f2 f3 flt x0 x1 x2 x3 xlt y0 y1 y2 y3 plt hw4
      obtain ⟨x0, x1, x2, x3⟩ := X4.out.four HQ2.out
      have xf := X4.out.free
      go_wp2
      have G5 := grown_four w4 (w.heap.size + 1) y V2
      have X5 := X4.out.put4 (s := y) (by rw [hopL_len]; exact hyn) V2
      rw [HS2.out] at X5
      have F5 := Lib.hid (F4.out.grown G5 (by simp))
      have B5 := Lib.hid (B4.out.grown G5 B4.out.size (fun j hj => by simp at hj; omega))
      exact ⟨⟨k + 1, by omega, by go_num, F5, Lib.hid X5, B5⟩, by simp [intOf]; omega⟩
    · obtain rfl : k = L.length := by omega
      go_wp2
      go_ret
      exact ⟨⟨w.heap.size + 1, n, rfl, hx.out, by omega⟩, hb.out⟩
end Go.Proofs.Ytojmagooapjohaa

/- The operator, as the document's answers make it.
Conditions: the field is valid and small, its links and the vector lie in memory. -/
namespace Go.Proofs.Ytojmagooapjohaa
set_option linter.unusedVariables false
set_option linter.unusedSimpArgs false
set_option maxRecDepth 1000000
open Go.RowKit
open Um Tm Fm

theorem fl_take_snoc {X : List Sp} {i : Nat} {x : Sp} (h : X[i]? = some x) : (fl (X.take (i + 1))).map vi = (fl (X.take i)).map vi ++ s4 x := by
  have hi : i < X.length := (List.getElem?_eq_some_iff.1 h).1
  rw [List.take_succ_eq_append_getElem hi, (List.getElem?_eq_some_iff.1 h).2, fl_snoc]
theorem opL_at (k ma : Int) {n i : Nat} (A : List Arm) (M : List Sp) (h : i < n) : (opL k ma n A M)[i]? = some (axS k (axS (4 * ma) zs (at0 M i)) (at0 (hopL n A M) i)) := tab_at _ h
set_option maxHeartbeats 6400000 in
theorem operator_any (a b c ma k : Int) (bl off cap pb po pc n : Nat) (L : List Q) (M : List Sp) (w : World) (hF : Fld7 a b c L n) (hma : IsM ma) (hL : Lies w bl off L) (hM : LiesI w pb po (fl M)) (hn : M.length = n) : Calls Try.prog 133 #[.agg #[.int .i64 a, .int .i64 b, .int .i64 c, .slice (some ⟨bl, off, none⟩) L.length cap], .int .i64 ma, .slice (some ⟨pb, po, none⟩) n pc, .int .i64 k] w fun e w' => (∃ g kk : Nat, e = .returned (.slice (some ⟨g, 0, none⟩) n kk) ∧ LiesI w' g 0 (fl (opL k ma n (arms a b c L L.length) M)) ∧ w.heap.size ≤ g) ∧ Below w.heap.size w w' := by
  obtain ⟨i0, hi, hz0, hz1, hz2⟩ := info_parts infoS
  have hps := hF.pos
  have HL := Lib.hid hL
  have HM := Lib.hid hM
  have HN := Lib.hid hn
  have hlm := fl_lt hM (by omega)
  have c1 := fun (W : World) (h1 : Lies W bl off L) (h2 : LiesI W pb po (fl M)) => refHop_any a b c bl off cap pb po pc n L M W hF h1 h2 hn
  obtain ⟨m1, m2⟩ := hma
  have e4 : IntKind.i64.wrap (4 * ma) = 4 * ma := IntWalk.i64_in _ (by omega)
  have HA := Lib.hid (fun i (h : i < n) => opL_at k ma (arms a b c L L.length) M h)
  have HLO := Lib.hid (opL_len k ma n (arms a b c L L.length) M)
  have HHL := Lib.hid (hopL_len n (arms a b c L L.length) M)
  clear hF hL hM hn
  generalize opL k ma n (arms a b c L L.length) M = X at *
  generalize hopL n (arms a b c L L.length) M = Hh at *
  have kc := @Tail.cell_re
  have kc1 : ∀ (W : World) (o : Obj) (d : Nat) (os : Array Obj) (a : Addr), a.block ≤ W.heap.size → (Sort.grow (redrawn (W.alloc o) d) os).cell? a = (W.alloc o).cell? a := fun W o d os a h => Tail.cell_re (W.alloc o) d os a (Nat.lt_of_le_of_lt h (by simp))
  go_enter Try.func133, Try.ntmps133
  go_wp2_with ((with_reducible refine (c1 _ (HL.out.later (by repeat (first | (with_reducible exact Below.refl _ _) | (with_reducible refine Below.setCell ?_ ?_ _) | (with_reducible refine Below.drew ?_) | (with_reducible refine Below.alloc ?_ ?_ _) | omega | (simp <;> omega)))) (HM.out.later (by repeat (first | (with_reducible exact Below.refl _ _) | (with_reducible refine Below.setCell ?_ ?_ _) | (with_reducible refine Below.drew ?_) | (with_reducible refine Below.alloc ?_ ?_ _) | omega | (simp <;> omega))))).mono ?_); clear c1; rintro e w1 ⟨⟨gh, kh, rfl, hbh, hgh⟩, hw1⟩; have HBH := Lib.hid hbh.liesI; have hlh := hbh.lt; clear hbh)
  have HW1 := Lib.hid (show Below w.heap.size w w1 by repeat (first | (with_reducible exact Below.refl _ _) | (with_reducible refine Below.setCell ?_ ?_ _) | (with_reducible refine Below.drew ?_) | (with_reducible refine Below.alloc ?_ ?_ _) | (with_reducible refine Below.trans ?_ (Below.mono hw1 ?_)) | (with_reducible exact hw1.size) | omega | (simp <;> omega) | (simp <;> (have s := hw1.size; omega)) | (have s0 := hw1.size; (try simp at s0); (try simp); omega)))
  have hpm : pb < w1.heap.size := Nat.lt_of_lt_of_le hlm HW1.out.size
  have HM1 := Lib.hid (HM.out.later HW1.out)
  clear hw1
  go_loopw [10, 11] (fun f q wr => ∃ (i : Nat) (v : Value), i ≤ n ∧ q = .int .i64 i ∧ v = f ∧ Hid (wr.ownsRow w1.heap.size 95 4 v i ((fl (X.take i)).map vi)) ∧ Hid (Below w1.heap.size w1 wr)) (fun _ q _ => n - (intOf q).toNat)
  case atStart => exact ⟨0, _, by omega, rfl, rfl, Lib.hid (World.ownsRow_nil _ _ _ _), Lib.hid (Below.refl _ _)⟩
  case round =>
    obtain ⟨i, v, hin, rfl, rfl, hown, hb⟩ := hrel
    have hbs := hb.out.size
    by_cases hlt : i < n
    · have i1 : (i : Int) < (n : Int) := by omega
      have him : i < M.length := by have := HN.out; omega
      have hih : i < Hh.length := by have := HHL.out; omega
      obtain ⟨x0, x1, x2, x3⟩ := four_at (HM1.out.later hb.out) (List.getElem?_eq_getElem him)
      obtain ⟨y0, y1, y2, y3⟩ := four_at (HBH.out.later hb.out) (List.getElem?_eq_getElem hih)
      have lx : pb < wr.heap.size := by omega
      have ly : gh < wr.heap.size := by omega
      have hX := HA.out i hlt
      rw [at0_of (List.getElem?_eq_getElem him), at0_of (List.getElem?_eq_getElem hih)] at hX
      have hsn := fl_take_snoc hX
      have hxi := (List.getElem?_eq_some_iff.1 hX).1
      generalize M[i] = x at *
      generalize Hh[i] = y at *
      have ca : ∀ W : World, Calls Try.prog 134 #[.agg #[.int .i64 0, .int .i64 0, .int .i64 0, .int .i64 0], .agg #[.int .i64 x.a, .int .i64 x.b, .int .i64 x.c, .int .i64 x.d], .int .i64 (4 * ma)] W fun e w' => e = .returned (.agg #[.int .i64 (axS (4 * ma) zs x).a, .int .i64 (axS (4 * ma) zs x).b, .int .i64 (axS (4 * ma) zs x).c, .int .i64 (axS (4 * ma) zs x).d]) ∧ Below W.heap.size W w' := fun W => refAdd7_any zs x (4 * ma) W
      have ca2 : ∀ W : World, Calls Try.prog 134 #[.agg #[.int .i64 (axS (4 * ma) zs x).a, .int .i64 (axS (4 * ma) zs x).b, .int .i64 (axS (4 * ma) zs x).c, .int .i64 (axS (4 * ma) zs x).d], .agg #[.int .i64 y.a, .int .i64 y.b, .int .i64 y.c, .int .i64 y.d], .int .i64 k] W fun e w' => e = .returned (.agg #[.int .i64 (axS k (axS (4 * ma) zs x) y).a, .int .i64 (axS k (axS (4 * ma) zs x) y).b, .int .i64 (axS k (axS (4 * ma) zs x) y).c, .int .i64 (axS k (axS (4 * ma) zs x) y).d]) ∧ Below W.heap.size W w' := fun W => refAdd7_any (axS (4 * ma) zs x) y k W
      have HSN := Lib.hid hsn
      clear hsn hX
      generalize axS k (axS (4 * ma) zs x) y = V at *
      generalize axS (4 * ma) zs x = r1 at *
      simp only [Nat.zero_add] at y0 y1 y2 y3
      go_wp2
      apply Made.region_one 15 (.cells (s4 V).toArray 95) (fun g => .slice (some ⟨g, 0, none⟩) 1 1) (some 36) (by kernel_rfl) (by kernel_rfl) (by kernel_rfl)
      · intro B hB
        have kc := @Tail.cell_re
        have hcB := Tail.cells hB
        have zB0 := Nat.lt_of_lt_of_le lx hB.size
        have zB1 := Nat.lt_of_lt_of_le ly hB.size
        simp only [List.take_succ_cons, List.take_zero]
        repeat (go_big_quiet_step (first | (with_reducible exact Calls.regrown_of (ca _)) | (with_reducible exact Calls.regrown_of (ca2 _))))
        exact wpQuiet_nil rfl
      · refine ⟨_, rfl, rfl, fun W => ⟨rfl, ?_⟩⟩
        simp [execOp, go_sem, s4, vi]
      intro g w2 hg hw2 hx2
      show wpList _ _ _ (List.drop 16 _) _ _
      simp only [List.drop_succ_cons, List.drop_zero]
      have z0 := Wide.cell_at hx2 0 _ rfl
      have z1 := Wide.cell_at hx2 1 _ rfl
      have z2 := Wide.cell_at hx2 2 _ rfl
      have z3 := Wide.cell_at hx2 3 _ rfl
      have HO2 := Lib.hid (owned_later hown.out hw2)
      have B2 := hb.out.trans (hw2.mono hb.out.size)
      have hb2 := B2.size
      clear x0 x1 x2 x3 y0 y1 y2 y3 hown hb hw2
      go_wp2_with (at_builtin; refine wpList_append_own _ rfl (.tmp 21) (.tmp 36) 51 rfl w1.heap.size 95 i0 _ 4 32 Try.underlying51 hi hz0 hz1 hz2 rfl (by decide) v i ((fl (X.take i)).map vi) rfl HO2.out ⟨g, 0, none⟩ 1 1 (s4 V) rfl rfl (four_news z0 z1 z2 z3) (four_ones _) (by unfold maxLen; omega) (by omega) (by omega) ?_; intro v' w4 hown4 hgrow4 _)
      have hfr := owned_from HO2.out
      have b4 := B2.grown hgrow4 (by omega) (fun j hj => by have := hfr j hj; omega)
      rw [← HSN.out] at hown4
      have HO4 := Lib.hid hown4
      have HB4 := Lib.hid b4
      clear hown4 hgrow4 b4 B2
      go_wp2
      exact ⟨⟨i + 1, _, by omega, by go_num, rfl, HO4, HB4⟩, by simp [intOf]; omega⟩
    · obtain rfl : i = n := by omega
      have hown2 := hown.out
      rw [show X.take i = X by rw [← HLO.out, List.take_length]] at hown2
      obtain ⟨gv, cv, rfl, hgv, hli⟩ := owned_liesS hown2 (by omega) HLO.out
      have HLI := Lib.hid hli
      clear hown hown2 hli
      go_wp2
      go_ret
      have hsz := HW1.out.size
      exact ⟨⟨gv, cv, rfl, HLI.out, by omega⟩, HW1.out.trans (hb.out.mono hsz)⟩
end Go.Proofs.Ytojmagooapjohaa

/- Hop, Apply, Dagger and Twice, as the document's answers give them.
Conditions: the lists lie in memory as it is written at each theorem. -/
namespace Go.Proofs.Ytojmagooapjohaa
set_option linter.unusedVariables false
set_option linter.unusedSimpArgs false
set_option maxRecDepth 1000000
open Go.RowKit
open Um Tm Fm

def RetL7 (m n : Nat) (M : List Sp) (e : Ending) (w' : World) : Prop := ∃ g k : Nat, e = .returned (.tuple #[.slice (some ⟨g, 0, none⟩) n k, .int .i64 0]) ∧ LiesI w' g 0 (fl M) ∧ m ≤ g
end Go.Proofs.Ytojmagooapjohaa

/- What is left of a source: remainders, residuals and checks, as the program finds them.
Conditions: the lists lie in memory as it is written at each theorem. -/
namespace Go.Proofs.Ytojmagooapjohaa
set_option linter.unusedVariables false
set_option linter.unusedSimpArgs false
set_option maxRecDepth 1000000
open Go.RowKit
open Um Tm Fm

/-- how large an entry of a source may be -/
def sE : Int := 1048576
/-- the first error of a field, two vectors, a mass and a source -/
def rmR (m : Nat) (M N : List Sp) (r0 ma r : Int) : Prop := ∃ r1, ms2 m M N r0 ma r1 ∧ ((r1 ≠ 0 ∧ r = r1) ∨ (r1 = 0 ∧ ((AllE sE N ∧ r = 0) ∨ (¬ AllE sE N ∧ r = 1))))
theorem rmR_ex (m : Nat) (M N : List Sp) (r0 ma : Int) : ∃ r, rmR m M N r0 ma r := by
  obtain ⟨r1, h1⟩ := ms2_ex m M N r0 ma
  by_cases h : r1 = 0
  · by_cases h2 : AllE sE N
    · exact ⟨0, r1, h1, .inr ⟨h, .inl ⟨h2, rfl⟩⟩⟩
    · exact ⟨1, r1, h1, .inr ⟨h, .inr ⟨h2, rfl⟩⟩⟩
  · exact ⟨r1, r1, h1, .inl ⟨h, rfl⟩⟩
theorem rmR_ok {m : Nat} {M N : List Sp} {r0 ma : Int} (h : rmR m M N r0 ma 0) : ms2 m M N r0 ma 0 ∧ AllE sE N := by
  obtain ⟨r1, h1, ⟨h2, h3⟩ | ⟨rfl, ⟨h3, _⟩ | ⟨_, h3⟩⟩⟩ := h
  · exact absurd h3.symm h2
  · exact ⟨h1, h3⟩
  · cases h3
/-- what is left -/
def remL (ma : Int) (n : Nat) (A : List Arm) (M N : List Sp) : List Sp := axp (-1) N (opL 1 ma n A M)
theorem remL_len (ma : Int) (n : Nat) (A : List Arm) (M N : List Sp) : (remL ma n A M N).length = N.length := axp_len _ _ _
set_option maxHeartbeats 3200000 in
theorem remainder_bad (a b c r0 ma r : Int) (ao po qo : Option Addr) (cap pc qc : Nat) (L : List Q) (ns : List Int) (M N : List Sp) (w : World) (h : LiesO w ao L) (hp : LiesOI w po (fl M)) (hq : LiesOI w qo (fl N)) (hr : numsR a b c L ns r0) (hv : rmR L.length M N r0 ma r) (hne : r ≠ 0) (hlen : L.length ≤ 1000000) (hlm : M.length ≤ 1000000) (hln : N.length ≤ 1000000) : Calls Try.prog 67 #[.agg #[.int .i64 a, .int .i64 b, .int .i64 c, .slice ao L.length cap], .int .i64 ma, .slice po M.length pc, .slice qo N.length qc] w fun e w' => e = .returned (.tuple #[.slice none 0 0, .int .i64 r]) ∧ Below w.heap.size w w' := by
  have H := Lib.hid h
  have HP := Lib.hid hp
  have HQ := Lib.hid hq
  obtain ⟨r1, h1, hc⟩ := hv
  rcases hc with ⟨h2, rfl⟩ | ⟨rfl, ⟨_, h3⟩ | ⟨h3, rfl⟩⟩
  · have c1 : ∀ (sb : Nat) (W : World), LiesO W ao L → LiesOI W po (fl M) → LiesOI W qo (fl N) → W.cell? ⟨sb, 0, none⟩ = some (.slice po M.length pc) → W.cell? ⟨sb, 0 + 1, none⟩ = some (.slice qo N.length qc) → Calls Try.prog 54 #[.agg #[.int .i64 a, .int .i64 b, .int .i64 c, .slice ao L.length cap], .int .i64 ma, .slice (some ⟨sb, 0, none⟩) 2 2] W fun e w' => e = .returned (.tuple #[.slice none 0 0, .int .i64 r]) ∧ Below W.heap.size W w' := fun sb W k1 k2 k3 k4 k5 => start2_bad a b c r0 ma r ao po qo cap pc qc sb 0 L ns M N W k1 k2 k3 k4 k5 hr h1 hne hlen hlm hln
    have t1 : (r != 0) = true := by simpa using hne
    clear h hp hq hr h1 h2 hne
    go_enter Try.func67, Try.ntmps67
    go_wp2_with ((with_reducible refine (c1 _ _ (H.out.later (by repeat (first | (with_reducible exact Below.refl _ _) | (with_reducible refine Below.setCell ?_ ?_ _) | (with_reducible refine Below.drew ?_) | (with_reducible refine Below.alloc ?_ ?_ _) | omega | (simp <;> omega)))) (HP.out.later (by repeat (first | (with_reducible exact Below.refl _ _) | (with_reducible refine Below.setCell ?_ ?_ _) | (with_reducible refine Below.drew ?_) | (with_reducible refine Below.alloc ?_ ?_ _) | omega | (simp <;> omega)))) (HQ.out.later (by repeat (first | (with_reducible exact Below.refl _ _) | (with_reducible refine Below.setCell ?_ ?_ _) | (with_reducible refine Below.drew ?_) | (with_reducible refine Below.alloc ?_ ?_ _) | omega | (simp <;> omega)))) (by simp [go_sem]) (by simp [go_sem])).mono ?_); clear c1; rintro e w1 ⟨rfl, hw1⟩)
    go_ret2
    exact ⟨rfl, by repeat (first | (with_reducible exact Below.refl _ _) | (with_reducible refine Below.setCell ?_ ?_ _) | (with_reducible refine Below.drew ?_) | (with_reducible refine Below.alloc ?_ ?_ _) | (with_reducible refine Below.trans ?_ (Below.mono hw1 ?_)) | (with_reducible exact hw1.size) | omega | (simp <;> omega) | (simp <;> (have s := hw1.size; omega)) | (have s0 := hw1.size; (try simp at s0); (try simp); omega))⟩
  · exact absurd h3 hne
  · obtain ⟨rfl, hM, _, hN, _, him⟩ := ms2_ok h1
    obtain ⟨n, hF⟩ := fld7 hr
    have c1 : ∀ (sb : Nat) (W : World), LiesO W ao L → LiesOI W po (fl M) → LiesOI W qo (fl N) → W.cell? ⟨sb, 0, none⟩ = some (.slice po M.length pc) → W.cell? ⟨sb, 0 + 1, none⟩ = some (.slice qo N.length qc) → Calls Try.prog 54 #[.agg #[.int .i64 a, .int .i64 b, .int .i64 c, .slice ao L.length cap], .int .i64 ma, .slice (some ⟨sb, 0, none⟩) 2 2] W fun e w' => RetH W.heap.size n (row (arms a b c L L.length)) e w' ∧ Below W.heap.size W w' := fun sb W k1 k2 k3 k4 k5 => start2_ok a b c 0 ma ao po qo cap pc qc sb 0 L ns M N W k1 k2 k3 k4 k5 hr h1 n hF hlm hln
    have c2 := fun (W : World) (k1 : LiesOI W qo (fl N)) => isWithin7_any 1048576 qo N qc W false k1 (by decide) (by decide) hln (.inr ⟨h3, rfl⟩)
    clear h hp hq hr h1 hne h3 hF him hM hN
    go_enter Try.func67, Try.ntmps67
    go_wp2_with (first | ((with_reducible refine (c1 _ _ (H.out.later (by repeat (first | (with_reducible exact Below.refl _ _) | (with_reducible refine Below.setCell ?_ ?_ _) | (with_reducible refine Below.drew ?_) | (with_reducible refine Below.alloc ?_ ?_ _) | omega | (simp <;> omega)))) (HP.out.later (by repeat (first | (with_reducible exact Below.refl _ _) | (with_reducible refine Below.setCell ?_ ?_ _) | (with_reducible refine Below.drew ?_) | (with_reducible refine Below.alloc ?_ ?_ _) | omega | (simp <;> omega)))) (HQ.out.later (by repeat (first | (with_reducible exact Below.refl _ _) | (with_reducible refine Below.setCell ?_ ?_ _) | (with_reducible refine Below.drew ?_) | (with_reducible refine Below.alloc ?_ ?_ _) | omega | (simp <;> omega)))) (by simp [go_sem]) (by simp [go_sem])).mono ?_); clear c1; rintro e w1 ⟨⟨g, vs, rfl, hH, hg⟩, hw1⟩; clear hH) | ((with_reducible refine (c2 _ (HQ.out.later (by repeat (first | (with_reducible exact Below.refl _ _) | (with_reducible refine Below.setCell ?_ ?_ _) | (with_reducible refine Below.drew ?_) | (with_reducible refine Below.alloc ?_ ?_ _) | (with_reducible refine Below.trans ?_ (Below.mono hw1 ?_)) | (with_reducible exact hw1.size) | omega | (simp <;> omega) | (simp <;> (have s := hw1.size; omega)) | (have s0 := hw1.size; (try simp at s0); (try simp); omega))))).mono ?_); clear c2; rintro e w2 ⟨rfl, hw2⟩))
    go_ret2
    exact ⟨rfl, by repeat (first | (with_reducible exact Below.refl _ _) | (with_reducible refine Below.setCell ?_ ?_ _) | (with_reducible refine Below.drew ?_) | (with_reducible refine Below.alloc ?_ ?_ _) | (with_reducible refine Below.trans ?_ (Below.mono hw2 ?_)) | (with_reducible refine Below.trans ?_ (Below.mono hw1 ?_)) | (with_reducible exact hw2.size) | (with_reducible exact hw1.size) | omega | (simp <;> omega) | (simp <;> (have s := hw2.size; omega)) | (simp <;> (have s := hw1.size; omega)) | (have s0 := hw2.size; (try simp at s0); have s1 := hw1.size; (try simp at s1); (try simp); omega))⟩
set_option maxHeartbeats 3200000 in
theorem remainder_ok (a b c ma : Int) (ao po qo : Option Addr) (cap pc qc n : Nat) (L : List Q) (ns : List Int) (M N : List Sp) (w : World) (h : LiesO w ao L) (hp : LiesOI w po (fl M)) (hq : LiesOI w qo (fl N)) (hr : numsR a b c L ns 0) (hv : rmR L.length M N 0 ma 0) (hF : Fld7 a b c L n) (hlm : M.length ≤ 1000000) (hln : N.length ≤ 1000000) : Calls Try.prog 67 #[.agg #[.int .i64 a, .int .i64 b, .int .i64 c, .slice ao L.length cap], .int .i64 ma, .slice po M.length pc, .slice qo N.length qc] w fun e w' => RetV7 w.heap.size n (remL ma n (arms a b c L L.length) M N) e w' ∧ Below w.heap.size w w' := by
  obtain ⟨h1, h3⟩ := rmR_ok hv
  obtain ⟨-, hM, _, hN, _, him⟩ := ms2_ok h1
  have hps := hF.pos
  have hll := hF.l
  have hmn : M.length = n := by omega
  have hnn : N.length = n := by omega
  obtain ⟨pb, po2, rfl, hP⟩ := lies_some hp (List.getElem?_eq_getElem (show 0 < M.length by omega))
  obtain ⟨qb, qo2, rfl, hQ⟩ := lies_some hq (List.getElem?_eq_getElem (show 0 < N.length by omega))
  have H := Lib.hid h
  have HP := Lib.hid hP
  have HQ := Lib.hid hQ
  have c1 : ∀ (sb : Nat) (W : World), LiesO W ao L → LiesI W pb po2 (fl M) → LiesI W qb qo2 (fl N) → W.cell? ⟨sb, 0, none⟩ = some (.slice (some ⟨pb, po2, none⟩) M.length pc) → W.cell? ⟨sb, 0 + 1, none⟩ = some (.slice (some ⟨qb, qo2, none⟩) N.length qc) → Calls Try.prog 54 #[.agg #[.int .i64 a, .int .i64 b, .int .i64 c, .slice ao L.length cap], .int .i64 ma, .slice (some ⟨sb, 0, none⟩) 2 2] W fun e w' => RetH W.heap.size n (row (arms a b c L L.length)) e w' ∧ Below W.heap.size W w' := fun sb W k1 k2 k3 k4 k5 => start2_ok a b c 0 ma ao (some ⟨pb, po2, none⟩) (some ⟨qb, qo2, none⟩) cap pc qc sb 0 L ns M N W k1 (.inr ⟨pb, po2, rfl, k2⟩) (.inr ⟨qb, qo2, rfl, k3⟩) k4 k5 hr h1 n hF hlm hln
  have c2 : ∀ W : World, LiesI W qb qo2 (fl N) → Calls Try.prog 56 #[.slice (some ⟨qb, qo2, none⟩) N.length qc, .int .i64 1048576] W fun e w' => e = .returned (.bool true) ∧ Below W.heap.size W w' := fun (W : World) k1 => isWithin7_any 1048576 (some ⟨qb, qo2, none⟩) N qc W true (.inr ⟨qb, qo2, rfl, k1⟩) (by decide) (by decide) hln (.inl ⟨h3, rfl⟩)
  have c3 := fun (W : World) (base g gc : Nat) (vs : Nat → Value) (k1 : Hp W base g n vs (row (arms a b c L L.length))) (k2 : LiesI W pb po2 (fl M)) => apply7_any a b c ma L base g n gc pb po2 pc vs M W hF him k1 k2 hmn
  have c4 : ∀ (W : World) (g1 k1 : Nat), LiesI W qb qo2 (fl N) → LiesI W g1 0 (fl (opL 1 ma n (arms a b c L L.length) M)) → Calls Try.prog 97 #[.slice (some ⟨qb, qo2, none⟩) n qc, .slice (some ⟨g1, 0, none⟩) n k1] W fun e w' => (∃ g k : Nat, e = .returned (.slice (some ⟨g, 0, none⟩) n k) ∧ IBox w' g (fl (remL ma n (arms a b c L L.length) M N)) ∧ W.heap.size ≤ g) ∧ Below W.heap.size W w' := fun W g1 k1 h1 h2 => by
    have := minus_any qb qo2 qc g1 0 k1 N (opL 1 ma n (arms a b c L L.length) M) W h1 h2 (by rw [opL_len]; omega) (by rw [opL_len, hnn]) (by rw [opL_len]; omega)
    rw [opL_len] at this
    exact this.mono fun e w' ⟨⟨g', k, he, hb, hg⟩, hw⟩ => ⟨⟨g', k, by rw [he, axp_len, hnn], hb, hg⟩, hw⟩
  rw [hmn, hnn] at c1 ⊢
  rw [hnn] at c2
  generalize remL ma n (arms a b c L L.length) M N = X at *
  clear h hp hq hr hv h1 h3 hF him hM hN hP hQ hll hmn hnn
  go_enter Try.func67, Try.ntmps67
  go_wp2_with (first | ((with_reducible refine (c1 _ _ (H.out.later (by repeat (first | (with_reducible exact Below.refl _ _) | (with_reducible refine Below.setCell ?_ ?_ _) | (with_reducible refine Below.drew ?_) | (with_reducible refine Below.alloc ?_ ?_ _) | omega | (simp <;> omega)))) (HP.out.later (by repeat (first | (with_reducible exact Below.refl _ _) | (with_reducible refine Below.setCell ?_ ?_ _) | (with_reducible refine Below.drew ?_) | (with_reducible refine Below.alloc ?_ ?_ _) | omega | (simp <;> omega)))) (HQ.out.later (by repeat (first | (with_reducible exact Below.refl _ _) | (with_reducible refine Below.setCell ?_ ?_ _) | (with_reducible refine Below.drew ?_) | (with_reducible refine Below.alloc ?_ ?_ _) | omega | (simp <;> omega)))) (by simp [go_sem]) (by simp [go_sem])).mono ?_); clear c1; rintro e w1 ⟨⟨g, vs, rfl, hH, hg⟩, hw1⟩; have HH := Lib.hid hH; have s1 := hw1.size; simp at s1; clear hH) | ((with_reducible refine (c2 _ (HQ.out.later (by repeat (first | (with_reducible exact Below.refl _ _) | (with_reducible refine Below.setCell ?_ ?_ _) | (with_reducible refine Below.drew ?_) | (with_reducible refine Below.alloc ?_ ?_ _) | (with_reducible refine Below.trans ?_ (Below.mono hw1 ?_)) | (with_reducible exact hw1.size) | omega | (simp <;> omega) | (simp <;> (have s := hw1.size; omega)) | (have s0 := hw1.size; (try simp at s0); (try simp); omega))))).mono ?_); clear c2; rintro e w2 ⟨rfl, hw2⟩))
  go_wp2_with ((with_reducible refine (c3 _ _ _ _ _ (HH.out.later hw2) (HP.out.later (by repeat (first | (with_reducible exact Below.refl _ _) | (with_reducible refine Below.setCell ?_ ?_ _) | (with_reducible refine Below.drew ?_) | (with_reducible refine Below.alloc ?_ ?_ _) | (with_reducible refine Below.trans ?_ (Below.mono hw2 ?_)) | (with_reducible refine Below.trans ?_ (Below.mono hw1 ?_)) | (with_reducible exact hw2.size) | (with_reducible exact hw1.size) | omega | (simp <;> omega) | (simp <;> (have s := hw2.size; omega)) | (simp <;> (have s := hw1.size; omega)) | (have s0 := hw2.size; (try simp at s0); have s1 := hw1.size; (try simp at s1); (try simp); omega))))).mono ?_); clear c3; rintro e w3 ⟨⟨g3, k3, rfl, hb3, hg3⟩, hw3⟩; have HB3 := Lib.hid hb3.liesI; clear hb3)
  go_wp2_with ((with_reducible refine (c4 _ _ _ (HQ.out.later (by repeat (first | (with_reducible exact Below.refl _ _) | (with_reducible refine Below.setCell ?_ ?_ _) | (with_reducible refine Below.drew ?_) | (with_reducible refine Below.alloc ?_ ?_ _) | (with_reducible refine Below.trans ?_ (Below.mono hw3 ?_)) | (with_reducible refine Below.trans ?_ (Below.mono hw2 ?_)) | (with_reducible refine Below.trans ?_ (Below.mono hw1 ?_)) | (with_reducible exact hw3.size) | (with_reducible exact hw2.size) | (with_reducible exact hw1.size) | omega | (simp <;> omega) | (simp <;> (have s := hw3.size; omega)) | (simp <;> (have s := hw2.size; omega)) | (simp <;> (have s := hw1.size; omega)) | (have s0 := hw3.size; (try simp at s0); have s1 := hw2.size; (try simp at s1); have s2 := hw1.size; (try simp at s2); (try simp); omega)))) HB3.out).mono ?_); clear c4; rintro e w4 ⟨⟨g4, k4, rfl, hb4, hg4⟩, hw4⟩; have HB4 := Lib.hid hb4; clear hb4)
  go_ret2
  exact ⟨⟨g4, k4, rfl, HB4.out, by have := hw2.size; have := hw3.size; omega⟩, by repeat (first | (with_reducible exact Below.refl _ _) | (with_reducible refine Below.setCell ?_ ?_ _) | (with_reducible refine Below.drew ?_) | (with_reducible refine Below.alloc ?_ ?_ _) | (with_reducible refine Below.trans ?_ (Below.mono hw4 ?_)) | (with_reducible refine Below.trans ?_ (Below.mono hw3 ?_)) | (with_reducible refine Below.trans ?_ (Below.mono hw2 ?_)) | (with_reducible refine Below.trans ?_ (Below.mono hw1 ?_)) | (with_reducible exact hw4.size) | (with_reducible exact hw3.size) | (with_reducible exact hw2.size) | (with_reducible exact hw1.size) | omega | (simp <;> omega) | (simp <;> (have s := hw4.size; omega)) | (simp <;> (have s := hw3.size; omega)) | (simp <;> (have s := hw2.size; omega)) | (simp <;> (have s := hw1.size; omega)) | (have s0 := hw4.size; (try simp at s0); have s1 := hw3.size; (try simp at s1); have s2 := hw2.size; (try simp at s2); have s3 := hw1.size; (try simp at s3); (try simp); omega))⟩
/-- what Residual answers where there is no error before: too large, or the vector and its square -/
def RetR7 (m n : Nat) (X : List Sp) (v : Int) (e : Ending) (w' : World) : Prop := ∃ g k : Nat, e = .returned (.tuple #[.slice (some ⟨g, 0, none⟩) n k, .int .i64 v, .int .i64 0]) ∧ LiesI w' g 0 (fl X) ∧ m ≤ g
set_option maxHeartbeats 1600000 in
theorem residual_bad (a b c r0 ma r : Int) (ao po qo : Option Addr) (cap pc qc : Nat) (L : List Q) (ns : List Int) (M N : List Sp) (w : World) (h : LiesO w ao L) (hp : LiesOI w po (fl M)) (hq : LiesOI w qo (fl N)) (hr : numsR a b c L ns r0) (hv : rmR L.length M N r0 ma r) (hne : r ≠ 0) (hlen : L.length ≤ 1000000) (hlm : M.length ≤ 1000000) (hln : N.length ≤ 1000000) : Calls Try.prog 32 #[.agg #[.int .i64 a, .int .i64 b, .int .i64 c, .slice ao L.length cap], .int .i64 ma, .slice po M.length pc, .slice qo N.length qc] w fun e w' => e = .returned (.tuple #[.slice none 0 0, .int .i64 0, .int .i64 r]) ∧ Below w.heap.size w w' := by
  have H := Lib.hid h
  have HP := Lib.hid hp
  have HQ := Lib.hid hq
  have c1 := fun (W : World) (h1 : LiesO W ao L) (h2 : LiesOI W po (fl M)) (h3 : LiesOI W qo (fl N)) => remainder_bad a b c r0 ma r ao po qo cap pc qc L ns M N W h1 h2 h3 hr hv hne hlen hlm hln
  have t1 : (r != 0) = true := by simpa using hne
  clear h hp hq hr hv hne
  go_enter Try.func32, Try.ntmps32
  go_wp2_with ((with_reducible refine (c1 _ (H.out.later (by repeat (first | (with_reducible exact Below.refl _ _) | (with_reducible refine Below.setCell ?_ ?_ _) | (with_reducible refine Below.drew ?_) | (with_reducible refine Below.alloc ?_ ?_ _) | omega | (simp <;> omega)))) (HP.out.later (by repeat (first | (with_reducible exact Below.refl _ _) | (with_reducible refine Below.setCell ?_ ?_ _) | (with_reducible refine Below.drew ?_) | (with_reducible refine Below.alloc ?_ ?_ _) | omega | (simp <;> omega)))) (HQ.out.later (by repeat (first | (with_reducible exact Below.refl _ _) | (with_reducible refine Below.setCell ?_ ?_ _) | (with_reducible refine Below.drew ?_) | (with_reducible refine Below.alloc ?_ ?_ _) | omega | (simp <;> omega))))).mono ?_); clear c1; rintro e w1 ⟨rfl, hw1⟩)
  go_ret3
  exact ⟨rfl, by repeat (first | (with_reducible exact Below.refl _ _) | (with_reducible refine Below.setCell ?_ ?_ _) | (with_reducible refine Below.drew ?_) | (with_reducible refine Below.alloc ?_ ?_ _) | (with_reducible refine Below.trans ?_ (Below.mono hw1 ?_)) | (with_reducible exact hw1.size) | omega | (simp <;> omega) | (simp <;> (have s := hw1.size; omega)) | (have s0 := hw1.size; (try simp at s0); (try simp); omega))⟩
set_option maxHeartbeats 1600000 in
theorem residual_large (a b c ma : Int) (ao po qo : Option Addr) (cap pc qc n : Nat) (L : List Q) (ns : List Int) (M N : List Sp) (w : World) (h : LiesO w ao L) (hp : LiesOI w po (fl M)) (hq : LiesOI w qo (fl N)) (hr : numsR a b c L ns 0) (hv : rmR L.length M N 0 ma 0) (hF : Fld7 a b c L n) (hlm : M.length ≤ 1000000) (hln : N.length ≤ 1000000) (hx : ¬ AllE mE (remL ma n (arms a b c L L.length) M N)) : Calls Try.prog 32 #[.agg #[.int .i64 a, .int .i64 b, .int .i64 c, .slice ao L.length cap], .int .i64 ma, .slice po M.length pc, .slice qo N.length qc] w fun e w' => e = .returned (.tuple #[.slice none 0 0, .int .i64 0, .int .i64 3]) ∧ Below w.heap.size w w' := by
  have H := Lib.hid h
  have HP := Lib.hid hp
  have HQ := Lib.hid hq
  have hps := hF.pos
  have c1 := fun (W : World) (h1 : LiesO W ao L) (h2 : LiesOI W po (fl M)) (h3 : LiesOI W qo (fl N)) => remainder_ok a b c ma ao po qo cap pc qc n L ns M N W h1 h2 h3 hr hv hF hlm hln
  have hxl : (remL ma n (arms a b c L L.length) M N).length = n := by
    have h1 := (ms2_ok (rmR_ok hv).1).2.2.2.1
    have := hF.l
    rw [remL_len]; omega
  generalize remL ma n (arms a b c L L.length) M N = X at *
  have c2 : ∀ (W : World) (g k : Nat), LiesI W g 0 (fl X) → Calls Try.prog 56 #[.slice (some ⟨g, 0, none⟩) n k, .int .i64 268435456] W fun e w' => e = .returned (.bool false) ∧ Below W.heap.size W w' := fun W g k h1 => by
    have := isWithin7_any 268435456 (some ⟨g, 0, none⟩) X k W false (.inr ⟨g, 0, rfl, h1⟩) (by decide) (by decide) (by omega) (.inr ⟨hx, rfl⟩)
    rwa [hxl] at this
  clear h hp hq hr hv hF hx hxl
  go_enter Try.func32, Try.ntmps32
  go_wp2_with (first | ((with_reducible refine (c1 _ (H.out.later (by repeat (first | (with_reducible exact Below.refl _ _) | (with_reducible refine Below.setCell ?_ ?_ _) | (with_reducible refine Below.drew ?_) | (with_reducible refine Below.alloc ?_ ?_ _) | omega | (simp <;> omega)))) (HP.out.later (by repeat (first | (with_reducible exact Below.refl _ _) | (with_reducible refine Below.setCell ?_ ?_ _) | (with_reducible refine Below.drew ?_) | (with_reducible refine Below.alloc ?_ ?_ _) | omega | (simp <;> omega)))) (HQ.out.later (by repeat (first | (with_reducible exact Below.refl _ _) | (with_reducible refine Below.setCell ?_ ?_ _) | (with_reducible refine Below.drew ?_) | (with_reducible refine Below.alloc ?_ ?_ _) | omega | (simp <;> omega))))).mono ?_); clear c1; rintro e w1 ⟨⟨g, k, rfl, hb, hg⟩, hw1⟩; have HB := Lib.hid hb.liesI; clear hb) | ((with_reducible refine (c2 _ _ _ HB.out).mono ?_); clear c2; rintro e w2 ⟨rfl, hw2⟩))
  go_ret3
  exact ⟨rfl, by repeat (first | (with_reducible exact Below.refl _ _) | (with_reducible refine Below.setCell ?_ ?_ _) | (with_reducible refine Below.drew ?_) | (with_reducible refine Below.alloc ?_ ?_ _) | (with_reducible refine Below.trans ?_ (Below.mono hw2 ?_)) | (with_reducible refine Below.trans ?_ (Below.mono hw1 ?_)) | (with_reducible exact hw2.size) | (with_reducible exact hw1.size) | omega | (simp <;> omega) | (simp <;> (have s := hw2.size; omega)) | (simp <;> (have s := hw1.size; omega)) | (have s0 := hw2.size; (try simp at s0); have s1 := hw1.size; (try simp at s1); (try simp); omega))⟩
set_option maxHeartbeats 1600000 in
theorem residual_ok (a b c ma : Int) (ao po qo : Option Addr) (cap pc qc n : Nat) (L : List Q) (ns : List Int) (M N : List Sp) (w : World) (h : LiesO w ao L) (hp : LiesOI w po (fl M)) (hq : LiesOI w qo (fl N)) (hr : numsR a b c L ns 0) (hv : rmR L.length M N 0 ma 0) (hF : Fld7 a b c L n) (hlm : M.length ≤ 1000000) (hln : N.length ≤ 1000000) (hx : AllE mE (remL ma n (arms a b c L L.length) M N)) : Calls Try.prog 32 #[.agg #[.int .i64 a, .int .i64 b, .int .i64 c, .slice ao L.length cap], .int .i64 ma, .slice po M.length pc, .slice qo N.length qc] w fun e w' => RetR7 w.heap.size n (remL ma n (arms a b c L L.length) M N) (wrap64 (dotL (remL ma n (arms a b c L L.length) M N) (remL ma n (arms a b c L L.length) M N))) e w' ∧ Below w.heap.size w w' := by
  have H := Lib.hid h
  have HP := Lib.hid hp
  have HQ := Lib.hid hq
  have hps := hF.pos
  have c1 := fun (W : World) (h1 : LiesO W ao L) (h2 : LiesOI W po (fl M)) (h3 : LiesOI W qo (fl N)) => remainder_ok a b c ma ao po qo cap pc qc n L ns M N W h1 h2 h3 hr hv hF hlm hln
  have hxl : (remL ma n (arms a b c L L.length) M N).length = n := by
    have h1 := (ms2_ok (rmR_ok hv).1).2.2.2.1
    have := hF.l
    rw [remL_len]; omega
  generalize remL ma n (arms a b c L L.length) M N = X at *
  have c2 : ∀ (W : World) (g k : Nat), LiesI W g 0 (fl X) → Calls Try.prog 56 #[.slice (some ⟨g, 0, none⟩) n k, .int .i64 268435456] W fun e w' => e = .returned (.bool true) ∧ Below W.heap.size W w' := fun W g k h1 => by
    have := isWithin7_any 268435456 (some ⟨g, 0, none⟩) X k W true (.inr ⟨g, 0, rfl, h1⟩) (by decide) (by decide) (by omega) (.inl ⟨hx, rfl⟩)
    rwa [hxl] at this
  have c3 : ∀ (W : World) (g k : Nat), LiesI W g 0 (fl X) → Calls Try.prog 68 #[.slice (some ⟨g, 0, none⟩) n k, .slice (some ⟨g, 0, none⟩) n k] W fun e w' => e = .returned (.int .i64 (wrap64 (dotL X X))) ∧ Below W.heap.size W w' := fun W g k h1 => by
    have := dot7_any (some ⟨g, 0, none⟩) (some ⟨g, 0, none⟩) k k X X W (.inr ⟨g, 0, rfl, h1⟩) (.inr ⟨g, 0, rfl, h1⟩) rfl (by omega)
    rwa [hxl] at this
  generalize wrap64 (dotL X X) = v at *
  clear h hp hq hr hv hF hx hxl
  go_enter Try.func32, Try.ntmps32
  go_wp2_with (first | ((with_reducible refine (c1 _ (H.out.later (by repeat (first | (with_reducible exact Below.refl _ _) | (with_reducible refine Below.setCell ?_ ?_ _) | (with_reducible refine Below.drew ?_) | (with_reducible refine Below.alloc ?_ ?_ _) | omega | (simp <;> omega)))) (HP.out.later (by repeat (first | (with_reducible exact Below.refl _ _) | (with_reducible refine Below.setCell ?_ ?_ _) | (with_reducible refine Below.drew ?_) | (with_reducible refine Below.alloc ?_ ?_ _) | omega | (simp <;> omega)))) (HQ.out.later (by repeat (first | (with_reducible exact Below.refl _ _) | (with_reducible refine Below.setCell ?_ ?_ _) | (with_reducible refine Below.drew ?_) | (with_reducible refine Below.alloc ?_ ?_ _) | omega | (simp <;> omega))))).mono ?_); clear c1; rintro e w1 ⟨⟨g, k, rfl, hb, hg⟩, hw1⟩; have HB := Lib.hid hb.liesI; clear hb; have s1 := hw1.size; simp at s1; simp at hg) | ((with_reducible refine (c2 _ _ _ HB.out).mono ?_); clear c2; rintro e w2 ⟨rfl, hw2⟩) | ((with_reducible refine (c3 _ _ _ (HB.out.later hw2)).mono ?_); clear c3; rintro e w3 ⟨rfl, hw3⟩))
  go_ret3
  exact ⟨⟨g, k, rfl, (HB.out.later hw2).later hw3, by omega⟩, by repeat (first | (with_reducible exact Below.refl _ _) | (with_reducible refine Below.setCell ?_ ?_ _) | (with_reducible refine Below.drew ?_) | (with_reducible refine Below.alloc ?_ ?_ _) | (with_reducible refine Below.trans ?_ (Below.mono hw3 ?_)) | (with_reducible refine Below.trans ?_ (Below.mono hw2 ?_)) | (with_reducible refine Below.trans ?_ (Below.mono hw1 ?_)) | (with_reducible exact hw3.size) | (with_reducible exact hw2.size) | (with_reducible exact hw1.size) | omega | (simp <;> omega) | (simp <;> (have s := hw3.size; omega)) | (simp <;> (have s := hw2.size; omega)) | (simp <;> (have s := hw1.size; omega)) | (have s0 := hw3.size; (try simp at s0); have s1 := hw2.size; (try simp at s1); have s2 := hw1.size; (try simp at s2); (try simp); omega))⟩
end Go.Proofs.Ytojmagooapjohaa

/- What is left of a source: rests and residuals, as the document's answers find them.
Conditions: the lists lie in memory as it is written at each theorem. -/
namespace Go.Proofs.Ytojmagooapjohaa
set_option linter.unusedVariables false
set_option linter.unusedSimpArgs false
set_option maxRecDepth 1000000
open Go.RowKit
open Um Tm Fm

theorem rm_vec {m : Nat} {M N : List Sp} {r0 ma r1 r : Int} (h1 : ms2 m M N r0 ma r1) (h : r1 = 0) (h2 : (AllE sE N ∧ r = 0) ∨ (¬ AllE sE N ∧ r = 1)) : vecR m N sE r := by
  subst h
  have hl := (ms2_ok h1).2.2.2.1
  rcases h2 with ⟨h2, h3⟩ | ⟨h2, h3⟩
  · exact .inr (.inl ⟨hl, h2, h3⟩)
  · exact .inr (.inr ⟨hl, h2, h3⟩)
set_option maxHeartbeats 3200000 in
theorem sourced2_any (a b c r0 ma r : Int) (ao po qo : Option Addr) (cap pc qc sb : Nat) (L : List Q) (ns : List Int) (M N : List Sp) (w : World) (h : LiesO w ao L) (hp : LiesOI w po (fl M)) (hq : LiesOI w qo (fl N)) (hs : w.cell? ⟨sb, 0, none⟩ = some (.slice po M.length pc)) (ht : w.cell? ⟨sb, 0 + 1, none⟩ = some (.slice qo N.length qc)) (hr : numsR a b c L ns r0) (hv : rmR L.length M N r0 ma r) (hlen : L.length ≤ 1000000) (hlm : M.length ≤ 1000000) (hln : N.length ≤ 1000000) : Calls Try.prog 60 #[.agg #[.int .i64 a, .int .i64 b, .int .i64 c, .slice ao L.length cap], .int .i64 ma, .slice (some ⟨sb, 0, none⟩) 2 2] w fun e w' => e = .returned (.int .i64 r) ∧ Below w.heap.size w w' := by
  have hsl : sb < w.heap.size := World.block_lt_of_cell? _ _ hs
  have H := Lib.hid h
  have HP := Lib.hid hp
  have HQ := Lib.hid hq
  have HS := Lib.hid (fun (W : World) (hb : Below w.heap.size w W) => (hb.cell (p := ⟨sb, 0, none⟩) hsl).trans hs)
  have HT := Lib.hid (fun (W : World) (hb : Below w.heap.size w W) => (hb.cell (p := ⟨sb, 0 + 1, none⟩) hsl).trans ht)
  obtain ⟨r1, h1, hc⟩ := hv
  have c1 : ∀ (W : World), LiesO W ao L → LiesOI W po (fl M) → LiesOI W qo (fl N) → W.cell? ⟨sb, 0, none⟩ = some (.slice po M.length pc) → W.cell? ⟨sb, 0 + 1, none⟩ = some (.slice qo N.length qc) → Calls Try.prog 101 #[.agg #[.int .i64 a, .int .i64 b, .int .i64 c, .slice ao L.length cap], .int .i64 ma, .slice (some ⟨sb, 0, none⟩) 2 2] W fun e w' => e = .returned (.int .i64 r1) ∧ Below W.heap.size W w' := fun W k1 k2 k3 k4 k5 => massive2_any a b c r0 ma r1 ao po qo cap pc qc sb 0 L ns M N W k1 k2 k3 k4 k5 hr h1 hlen hlm hln
  rcases hc with ⟨h2, rfl⟩ | ⟨h2, h3⟩
  · have t1 : (r != 0) = true := by simpa using h2
    clear h hp hq hs ht hr h1 h2
    go_enter Try.func60, Try.ntmps60
    go_wp2_with ((with_reducible refine (c1 _ (H.out.later (by repeat (first | (with_reducible exact Below.refl _ _) | (with_reducible refine Below.setCell ?_ ?_ _) | (with_reducible refine Below.drew ?_) | (with_reducible refine Below.alloc ?_ ?_ _) | omega | (simp <;> omega)))) (HP.out.later (by repeat (first | (with_reducible exact Below.refl _ _) | (with_reducible refine Below.setCell ?_ ?_ _) | (with_reducible refine Below.drew ?_) | (with_reducible refine Below.alloc ?_ ?_ _) | omega | (simp <;> omega)))) (HQ.out.later (by repeat (first | (with_reducible exact Below.refl _ _) | (with_reducible refine Below.setCell ?_ ?_ _) | (with_reducible refine Below.drew ?_) | (with_reducible refine Below.alloc ?_ ?_ _) | omega | (simp <;> omega)))) (HS.out _ (by repeat (first | (with_reducible exact Below.refl _ _) | (with_reducible refine Below.setCell ?_ ?_ _) | (with_reducible refine Below.drew ?_) | (with_reducible refine Below.alloc ?_ ?_ _) | omega | (simp <;> omega)))) (HT.out _ (by repeat (first | (with_reducible exact Below.refl _ _) | (with_reducible refine Below.setCell ?_ ?_ _) | (with_reducible refine Below.drew ?_) | (with_reducible refine Below.alloc ?_ ?_ _) | omega | (simp <;> omega))))).mono ?_); clear c1; rintro e w1 ⟨rfl, hw1⟩)
    go_ret
    exact ⟨rfl, by repeat (first | (with_reducible exact Below.refl _ _) | (with_reducible refine Below.setCell ?_ ?_ _) | (with_reducible refine Below.drew ?_) | (with_reducible refine Below.alloc ?_ ?_ _) | (with_reducible refine Below.trans ?_ (Below.mono hw1 ?_)) | (with_reducible exact hw1.size) | omega | (simp <;> omega) | (simp <;> (have s := hw1.size; omega)) | (have s0 := hw1.size; (try simp at s0); (try simp); omega))⟩
  · have hvec := rm_vec h1 h2 h3
    subst h2
    have c2 := fun (W : World) (k1 : LiesOI W qo (fl N)) => vector_any a b c 1048576 r ao qo cap qc L N W k1 (by decide) (by decide) hln hlen hvec
    clear h hp hq hs ht hr h1 h3 hvec
    have kc := @Tail.cell_re
    go_enter Try.func60, Try.ntmps60
    go_wp2_with ((with_reducible refine (c1 _ (H.out.later (by repeat (first | (with_reducible exact Below.refl _ _) | (with_reducible refine Below.setCell ?_ ?_ _) | (with_reducible refine Below.drew ?_) | (with_reducible refine Below.alloc ?_ ?_ _) | omega | (simp <;> omega)))) (HP.out.later (by repeat (first | (with_reducible exact Below.refl _ _) | (with_reducible refine Below.setCell ?_ ?_ _) | (with_reducible refine Below.drew ?_) | (with_reducible refine Below.alloc ?_ ?_ _) | omega | (simp <;> omega)))) (HQ.out.later (by repeat (first | (with_reducible exact Below.refl _ _) | (with_reducible refine Below.setCell ?_ ?_ _) | (with_reducible refine Below.drew ?_) | (with_reducible refine Below.alloc ?_ ?_ _) | omega | (simp <;> omega)))) (HS.out _ (by repeat (first | (with_reducible exact Below.refl _ _) | (with_reducible refine Below.setCell ?_ ?_ _) | (with_reducible refine Below.drew ?_) | (with_reducible refine Below.alloc ?_ ?_ _) | omega | (simp <;> omega)))) (HT.out _ (by repeat (first | (with_reducible exact Below.refl _ _) | (with_reducible refine Below.setCell ?_ ?_ _) | (with_reducible refine Below.drew ?_) | (with_reducible refine Below.alloc ?_ ?_ _) | omega | (simp <;> omega))))).mono ?_); clear c1; rintro e w1 ⟨rfl, hw1⟩; have hc1 := Tail.cells hw1; have zw10 := Nat.lt_of_lt_of_le (n := w.heap.size) (by simp <;> omega) hw1.size)
    have hb1 : Below w.heap.size w w1 := by repeat (first | (with_reducible exact Below.refl _ _) | (with_reducible refine Below.setCell ?_ ?_ _) | (with_reducible refine Below.drew ?_) | (with_reducible refine Below.alloc ?_ ?_ _) | (with_reducible refine Below.trans ?_ (Below.mono hw1 ?_)) | (with_reducible exact hw1.size) | omega | (simp <;> omega) | (simp <;> (have s := hw1.size; omega)) | (have s0 := hw1.size; (try simp at s0); (try simp); omega))
    have HQ1 := HQ.out.later hb1
    have x1 := HT.out _ hb1
    have x2 : sb < w1.heap.size := Nat.lt_of_lt_of_le hsl hb1.size
    have f0 : w1.cell? ⟨w.heap.size, 0, none⟩ = some (.int .i64 a) := (hc1.1 _ _ (by simp <;> omega)).trans (by simp [go_sem])
    have f1 : w1.cell? ⟨w.heap.size, 1, none⟩ = some (.int .i64 b) := (hc1.1 _ _ (by simp <;> omega)).trans (by simp [go_sem])
    have f2 : w1.cell? ⟨w.heap.size, 2, none⟩ = some (.int .i64 c) := (hc1.1 _ _ (by simp <;> omega)).trans (by simp [go_sem])
    have f3 : w1.cell? ⟨w.heap.size, 3, none⟩ = some (.slice ao L.length cap) := (hc1.1 _ _ (by simp <;> omega)).trans (by simp [go_sem])
    clear hc1 hw1
    have HQ1' := Lib.hid HQ1
    refine Tail.region_below (by kernel_rfl) (by kernel_rfl) ?_
    repeat (go_big_quiet_step (first | (with_reducible exact Calls.regrown_of (c2 _ (liesOI_re HQ1'.out _ _)))))
    refine wpQuiet_nil ?_
    intro w9 hw9
    go_wp2
    go_ret
    exact ⟨rfl, by repeat (first | (with_reducible exact Below.refl _ _) | (with_reducible refine Below.setCell ?_ ?_ _) | (with_reducible refine Below.drew ?_) | (with_reducible refine Below.alloc ?_ ?_ _) | (with_reducible refine Below.trans ?_ (Below.mono hw9 ?_)) | (with_reducible refine Below.trans ?_ (Below.mono hb1 ?_)) | (with_reducible exact hw9.size) | (with_reducible exact hb1.size) | omega | (simp <;> omega) | (simp <;> (have s := hw9.size; omega)) | (simp <;> (have s := hb1.size; omega)) | (have s0 := hw9.size; (try simp at s0); have s1 := hb1.size; (try simp at s1); (try simp); omega))⟩
theorem remL_at (ma : Int) {n i : Nat} (A : List Arm) (M N : List Sp) (h : i < N.length) : (remL ma n A M N)[i]? = some (axS (-1) (at0 N i) (at0 (opL 1 ma n A M) i)) := tab_at _ h
set_option maxHeartbeats 6400000 in
theorem rest_any (a b c ma : Int) (bl off cap pb po pc qb qo qc n : Nat) (L : List Q) (M N : List Sp) (w : World) (hF : Fld7 a b c L n) (hma : IsM ma) (hL : Lies w bl off L) (hM : LiesI w pb po (fl M)) (hN : LiesI w qb qo (fl N)) (hn : M.length = n) (hnn : N.length = n) : Calls Try.prog 103 #[.agg #[.int .i64 a, .int .i64 b, .int .i64 c, .slice (some ⟨bl, off, none⟩) L.length cap], .int .i64 ma, .slice (some ⟨pb, po, none⟩) n pc, .slice (some ⟨qb, qo, none⟩) n qc] w fun e w' => (∃ g kk : Nat, e = .returned (.slice (some ⟨g, 0, none⟩) n kk) ∧ LiesI w' g 0 (fl (remL ma n (arms a b c L L.length) M N)) ∧ w.heap.size ≤ g) ∧ Below w.heap.size w w' := by
  obtain ⟨i0, hi, hz0, hz1, hz2⟩ := info_parts infoS
  have hps := hF.pos
  have HL := Lib.hid hL
  have HM := Lib.hid hM
  have HN := Lib.hid hN
  have HNL := Lib.hid hnn
  have hlm := fl_lt hN (by omega)
  have c1 := fun (W : World) (h1 : Lies W bl off L) (h2 : LiesI W pb po (fl M)) => operator_any a b c ma 1 bl off cap pb po pc n L M W hF hma h1 h2 hn
  have HA := Lib.hid (fun i (h : i < N.length) => remL_at ma (n := n) (arms a b c L L.length) M N h)
  have HLO := Lib.hid ((remL_len ma n (arms a b c L L.length) M N).trans hnn)
  have HHL := Lib.hid (opL_len 1 ma n (arms a b c L L.length) M)
  clear hF hL hM hN hn hnn
  generalize remL ma n (arms a b c L L.length) M N = X at *
  generalize opL 1 ma n (arms a b c L L.length) M = Hh at *
  have kc := @Tail.cell_re
  have kc1 : ∀ (W : World) (o : Obj) (d : Nat) (os : Array Obj) (a : Addr), a.block ≤ W.heap.size → (Sort.grow (redrawn (W.alloc o) d) os).cell? a = (W.alloc o).cell? a := fun W o d os a h => Tail.cell_re (W.alloc o) d os a (Nat.lt_of_le_of_lt h (by simp))
  go_enter Try.func103, Try.ntmps103
  go_wp2_with ((with_reducible refine (c1 _ (HL.out.later (by repeat (first | (with_reducible exact Below.refl _ _) | (with_reducible refine Below.setCell ?_ ?_ _) | (with_reducible refine Below.drew ?_) | (with_reducible refine Below.alloc ?_ ?_ _) | omega | (simp <;> omega)))) (HM.out.later (by repeat (first | (with_reducible exact Below.refl _ _) | (with_reducible refine Below.setCell ?_ ?_ _) | (with_reducible refine Below.drew ?_) | (with_reducible refine Below.alloc ?_ ?_ _) | omega | (simp <;> omega))))).mono ?_); clear c1; rintro e w1 ⟨⟨gh, kh, rfl, hbh, hgh⟩, hw1⟩; have HBH := Lib.hid hbh; have hlh : gh < w1.heap.size := World.block_lt_of_cell? _ _ (hbh _ _ (fl_four (List.getElem?_eq_getElem (show 0 < Hh.length by have := HHL.out; omega))).1); clear hbh)
  have HW1 := Lib.hid (show Below w.heap.size w w1 by repeat (first | (with_reducible exact Below.refl _ _) | (with_reducible refine Below.setCell ?_ ?_ _) | (with_reducible refine Below.drew ?_) | (with_reducible refine Below.alloc ?_ ?_ _) | (with_reducible refine Below.trans ?_ (Below.mono hw1 ?_)) | (with_reducible exact hw1.size) | omega | (simp <;> omega) | (simp <;> (have s := hw1.size; omega)) | (have s0 := hw1.size; (try simp at s0); (try simp); omega)))
  have hpm : qb < w1.heap.size := Nat.lt_of_lt_of_le hlm HW1.out.size
  have HN1 := Lib.hid (HN.out.later HW1.out)
  clear hw1
  go_loopw [10, 11] (fun f q wr => ∃ (i : Nat) (v : Value), i ≤ n ∧ q = .int .i64 i ∧ v = f ∧ Hid (wr.ownsRow w1.heap.size 95 4 v i ((fl (X.take i)).map vi)) ∧ Hid (Below w1.heap.size w1 wr)) (fun _ q _ => n - (intOf q).toNat)
  case atStart => exact ⟨0, _, by omega, rfl, rfl, Lib.hid (World.ownsRow_nil _ _ _ _), Lib.hid (Below.refl _ _)⟩
  case round =>
    obtain ⟨i, v, hin, rfl, rfl, hown, hb⟩ := hrel
    have hbs := hb.out.size
    by_cases hlt : i < n
    · have i1 : (i : Int) < (n : Int) := by omega
      have him : i < N.length := by have := HNL.out; omega
      have hih : i < Hh.length := by have := HHL.out; omega
      obtain ⟨x0, x1, x2, x3⟩ := four_at (HN1.out.later hb.out) (List.getElem?_eq_getElem him)
      obtain ⟨y0, y1, y2, y3⟩ := four_at (HBH.out.later hb.out) (List.getElem?_eq_getElem hih)
      have lx : qb < wr.heap.size := by omega
      have ly : gh < wr.heap.size := by omega
      have hX := HA.out i him
      rw [at0_of (List.getElem?_eq_getElem him), at0_of (List.getElem?_eq_getElem hih)] at hX
      have hsn := fl_take_snoc hX
      generalize N[i] = x at *
      generalize Hh[i] = y at *
      have ca : ∀ W : World, Calls Try.prog 134 #[.agg #[.int .i64 x.a, .int .i64 x.b, .int .i64 x.c, .int .i64 x.d], .agg #[.int .i64 y.a, .int .i64 y.b, .int .i64 y.c, .int .i64 y.d], .int .i64 (-1)] W fun e w' => e = .returned (.agg #[.int .i64 (axS (-1) x y).a, .int .i64 (axS (-1) x y).b, .int .i64 (axS (-1) x y).c, .int .i64 (axS (-1) x y).d]) ∧ Below W.heap.size W w' := fun W => refAdd7_any x y (-1) W
      have HSN := Lib.hid hsn
      clear hsn hX
      generalize axS (-1) x y = V at *
      simp only [Nat.zero_add] at y0 y1 y2 y3
      go_wp2
      apply Made.region_one 10 (.cells (s4 V).toArray 95) (fun g => .slice (some ⟨g, 0, none⟩) 1 1) (some 32) (by kernel_rfl) (by kernel_rfl) (by kernel_rfl)
      · intro B hB
        have kc := @Tail.cell_re
        have hcB := Tail.cells hB
        have zB0 := Nat.lt_of_lt_of_le lx hB.size
        have zB1 := Nat.lt_of_lt_of_le ly hB.size
        simp only [List.take_succ_cons, List.take_zero]
        repeat (go_big_quiet_step (first | (with_reducible exact Calls.regrown_of (ca _))))
        exact wpQuiet_nil rfl
      · refine ⟨_, rfl, rfl, fun W => ⟨rfl, ?_⟩⟩
        simp [execOp, go_sem, s4, vi]
      intro g w2 hg hw2 hx2
      show wpList _ _ _ (List.drop 11 _) _ _
      simp only [List.drop_succ_cons, List.drop_zero]
      have z0 := Wide.cell_at hx2 0 _ rfl
      have z1 := Wide.cell_at hx2 1 _ rfl
      have z2 := Wide.cell_at hx2 2 _ rfl
      have z3 := Wide.cell_at hx2 3 _ rfl
      have HO2 := Lib.hid (owned_later hown.out hw2)
      have B2 := hb.out.trans (hw2.mono hb.out.size)
      have hb2 := B2.size
      clear x0 x1 x2 x3 y0 y1 y2 y3 hown hb hw2
      go_wp2_with (at_builtin; refine wpList_append_own _ rfl (.tmp 22) (.tmp 32) 51 rfl w1.heap.size 95 i0 _ 4 32 Try.underlying51 hi hz0 hz1 hz2 rfl (by decide) v i ((fl (X.take i)).map vi) rfl HO2.out ⟨g, 0, none⟩ 1 1 (s4 V) rfl rfl (four_news z0 z1 z2 z3) (four_ones _) (by unfold maxLen; omega) (by omega) (by omega) ?_; intro v' w4 hown4 hgrow4 _)
      have hfr := owned_from HO2.out
      have b4 := B2.grown hgrow4 (by omega) (fun j hj => by have := hfr j hj; omega)
      rw [← HSN.out] at hown4
      have HO4 := Lib.hid hown4
      have HB4 := Lib.hid b4
      clear hown4 hgrow4 b4 B2
      go_wp2
      exact ⟨⟨i + 1, _, by omega, by go_num, rfl, HO4, HB4⟩, by simp [intOf]; omega⟩
    · obtain rfl : i = n := by omega
      have hown2 := hown.out
      rw [show X.take i = X by rw [← HLO.out, List.take_length]] at hown2
      obtain ⟨gv, cv, rfl, hgv, hli⟩ := owned_liesS hown2 (by omega) HLO.out
      have HLI := Lib.hid hli
      clear hown hown2 hli
      go_wp2
      go_ret
      have hsz := HW1.out.size
      exact ⟨⟨gv, cv, rfl, HLI.out, by omega⟩, HW1.out.trans (hb.out.mono hsz)⟩
end Go.Proofs.Ytojmagooapjohaa

/- Vectors turned by small units, as the program and the document's answers make them.
Conditions: the lists lie in memory as it is written at each theorem. -/
namespace Go.Proofs.Ytojmagooapjohaa
set_option linter.unusedVariables false
set_option linter.unusedSimpArgs false
set_option maxRecDepth 1000000
open Go.RowKit
open Um Tm Fm

/-- a valid unit that is small -/
def SmU (u : Q) : Prop := V u ∧ u.n ≤ 2
theorem small_facts : ∀ k : Nat, k < 24 → g (small k) = 1 ∧ (small k).a * (small k).a + (small k).b * (small k).b + (small k).c * (small k).c + (small k).d * (small k).d = (small k).n * (small k).n ∧ 1 ≤ (small k).n ∧ (small k).n ≤ 2 := by decide +kernel
theorem smNumR {u : Q} {r : Int} (h : NumR u r true) : SmU u := by
  rcases h with ⟨k, hk, rfl, -, -, -⟩ | ⟨-, -, h⟩
  · obtain ⟨h1, h2, h3, h4⟩ := small_facts k hk
    exact ⟨⟨⟨by omega, h2⟩, h1, by omega⟩, h4⟩
  · cases h
def five : List Int := [-2, -1, 0, 1, 2]
theorem five_of {x : Int} (h : -2 ≤ x ∧ x ≤ 2) : x ∈ five := by
  have : x = -2 ∨ x = -1 ∨ x = 0 ∨ x = 1 ∨ x = 2 := by omega
  rcases this with h | h | h | h | h <;> subst h <;> decide
theorem small_all : ∀ n ∈ ([1, 2] : List Int), ∀ a ∈ five, ∀ b ∈ five, ∀ c ∈ five, ∀ d ∈ five, a * a + b * b + c * c + d * d = n * n → g ⟨a, b, c, d, n⟩ = 1 → ∃ k ∈ List.range 24, small (k : Int) = ⟨a, b, c, d, n⟩ := by decide +kernel
theorem sq_four {x : Int} (h : x * x ≤ 4) : -2 ≤ x ∧ x ≤ 2 := by
  refine ⟨?_, ?_⟩
  · by_cases h1 : -2 ≤ x
    · exact h1
    · have : 3 * 3 ≤ (-x) * (-x) := Int.mul_le_mul (by omega) (by omega) (by omega) (by omega)
      rw [Int.neg_mul_neg] at this
      omega
  · by_cases h1 : x ≤ 2
    · exact h1
    · have : 3 * 3 ≤ x * x := Int.mul_le_mul (by omega) (by omega) (by omega) (by omega)
      omega
theorem smNumR' {u : Q} {r : Int} {b : Bool} (h : NumR u r b) (hs : SmU u) : b = true := by
  rcases h with ⟨_, _, _, _, _, h⟩ | ⟨h, -, -⟩
  · exact h
  · exfalso
    obtain ⟨hv, h2⟩ := hs
    have hp := hv.u.pos
    have hl := hv.u.len
    have hg := hv.prim
    obtain ⟨a, b, c, d, n⟩ := u
    dsimp only at hp hl h2
    have sq : ∀ z : Int, 0 ≤ z * z := fun z => by
      rcases Int.le_total 0 z with h | h
      · exact Int.mul_nonneg h h
      · exact Int.mul_nonneg_of_nonpos_of_nonpos h h
    have := sq a; have := sq b; have := sq c; have := sq d
    have hn : n = 1 ∨ n = 2 := by omega
    have hnn : n * n ≤ 4 := by rcases hn with h | h <;> subst h <;> decide
    obtain ⟨k, hk, he⟩ := small_all n (by rcases hn with h | h <;> subst h <;> decide) a (five_of (sq_four (by omega))) b (five_of (sq_four (by omega))) c (five_of (sq_four (by omega))) d (five_of (sq_four (by omega))) hl hg
    exact h k (List.mem_range.1 hk) he
theorem num7 (u : Q) : ∃ (r er : Int) (b : Bool), (∀ W : World, Calls Try.prog 51 #[.agg #[.int .i64 u.a, .int .i64 u.b, .int .i64 u.c, .int .i64 u.d, .int .i64 u.n]] W fun e w' => e = .returned (.tuple #[.int .i64 r, .bool b, .int .i64 er]) ∧ Below W.heap.size W w') ∧ ((SmU u ∧ b = true) ∨ (¬ SmU u ∧ b = false)) := by
  by_cases hv : V u
  · obtain ⟨r, b, hr⟩ := NumR.ex u
    refine ⟨r, 0, b, fun W => number_ok u r b W hv hr, ?_⟩
    by_cases hs : SmU u
    · exact .inl ⟨hs, smNumR' hr hs⟩
    · refine .inr ⟨hs, ?_⟩
      cases b
      · rfl
      · exact absurd (smNumR hr) hs
  · exact ⟨0, 1, false, fun W => number_bad u W hv, .inr ⟨fun h => hv h.1, rfl⟩⟩
theorem SmU.n12 {u : Q} (h : SmU u) : N12 u := by
  have := h.1.u.pos
  have := h.2
  show u.n = 1 ∨ u.n = 2
  omega
def AllU (U : List Q) : Prop := ∀ (i : Nat) (x : Q), U[i]? = some x → SmU x
/-- a turned value -/
def tuV (U : List Q) (M : List Sp) (s : Nat) : Sp := (mulS (tw (U.getD s zero)).w (at0 M s)).w
/-- the first k values turned, zeros behind -/
def tuK (U : List Q) (M : List Sp) (k : Nat) : List Sp := tab M.length (fun s => if s < k then tuV U M s else zs)
def tuL (U : List Q) (M : List Sp) : List Sp := tab M.length (tuV U M)
theorem tuK_len (U : List Q) (M : List Sp) (k : Nat) : (tuK U M k).length = M.length := tab_len _ _
theorem tuL_len (U : List Q) (M : List Sp) : (tuL U M).length = M.length := tab_len _ _
theorem tuK_zero (U : List Q) (M : List Sp) : tuK U M 0 = List.replicate M.length zs := by
  refine List.ext_getElem? fun i => ?_
  by_cases hi : i < M.length
  · rw [tuK, tab_at _ hi, if_neg (by omega), List.getElem?_replicate, if_pos hi]
  · rw [List.getElem?_eq_none (by rw [tuK_len]; omega), List.getElem?_eq_none (by simp; omega)]
theorem tuK_end (U : List Q) (M : List Sp) : tuK U M M.length = tuL U M := tab_congr fun s hs => if_pos hs
theorem tuK_set (U : List Q) (M : List Sp) {k : Nat} : (tuK U M k).set k (tuV U M k) = tuK U M (k + 1) := by
  unfold tuK
  rw [tab_set]
  refine tab_congr fun s _ => ?_
  by_cases h1 : s = k
  · subst h1; rw [if_pos rfl, if_pos (by omega)]
  · rw [if_neg h1]
    by_cases h2 : s < k
    · rw [if_pos h2, if_pos (by omega)]
    · rw [if_neg h2, if_neg (by omega)]
theorem tuV_at {U : List Q} {M : List Sp} {k : Nat} {u : Q} {x : Sp} (hu : U[k]? = some u) (hx : M[k]? = some x) : tuV U M k = (mulS (tw u).w x).w := by
  unfold tuV
  rw [at0_of hx, List.getD_eq_getElem?_getD, hu]; rfl
theorem tuL_at {U : List Q} {M : List Sp} {k : Nat} {u : Q} {x : Sp} (hu : U[k]? = some u) (hx : M[k]? = some x) : (tuL U M)[k]? = some (mulS (tw u).w x).w := by
  unfold tuL
  rw [tab_at _ (List.getElem?_eq_some_iff.1 hx).1, tuV_at hu hx]
/-- the error of a field, a list of units and a vector -/
def tuR (m : Nat) (M : List Sp) (U : List Q) (r0 r : Int) : Prop := ∃ r1, vS m M r0 r1 ∧ ((r1 ≠ 0 ∧ r = r1) ∨ (r1 = 0 ∧ ((U.length = M.length ∧ AllU U ∧ r = 0) ∨ (¬ (U.length = M.length ∧ AllU U) ∧ r = 1))))
theorem tuR_ex (m : Nat) (M : List Sp) (U : List Q) (r0 : Int) : ∃ r, tuR m M U r0 r := by
  obtain ⟨r1, h⟩ := vS_ex m M r0
  by_cases h0 : r1 = 0
  · by_cases h2 : U.length = M.length ∧ AllU U
    · exact ⟨0, r1, h, .inr ⟨h0, .inl ⟨h2.1, h2.2, rfl⟩⟩⟩
    · exact ⟨1, r1, h, .inr ⟨h0, .inr ⟨h2, rfl⟩⟩⟩
  · exact ⟨r1, r1, h, .inl ⟨h0, rfl⟩⟩
set_option maxHeartbeats 1600000 in
theorem turned_err (a b c r0 r1 : Int) (ao uo po : Option Addr) (cap uc pc : Nat) (L : List Q) (ns : List Int) (U : List Q) (M : List Sp) (w : World) (h : LiesO w ao L) (hu : LiesO w uo U) (hp : LiesOI w po (fl M)) (hr : numsR a b c L ns r0) (hv : vS L.length M r0 r1) (hne : r1 ≠ 0) (hlen : L.length ≤ 1000000) (hlm : M.length ≤ 1000000) : Calls Try.prog 21 #[.agg #[.int .i64 a, .int .i64 b, .int .i64 c, .slice ao L.length cap], .slice uo U.length uc, .slice po M.length pc] w fun e w' => e = .returned (.tuple #[.slice none 0 0, .int .i64 r1]) ∧ Below w.heap.size w w' := by
  have H := Lib.hid h
  have HP := Lib.hid hp
  have v1 : ∀ W : World, LiesO W ao L → LiesOI W po (fl M) → Calls Try.prog 50 #[.agg #[.int .i64 a, .int .i64 b, .int .i64 c, .slice ao L.length cap], .slice po M.length pc] W fun e w' => e = .returned (.int .i64 r1) ∧ Below W.heap.size W w' := fun W h h2 => validate7_any a b c r0 r1 ao po cap pc L ns M W h h2 hr hv hlen hlm
  have t1 : (r1 != 0) = true := by simpa using hne
  clear h hp hr hv hne hu
  go_enter Try.func21, Try.ntmps21
  go_wp2_with ((with_reducible refine (v1 _ (H.out.later (by repeat (first | (with_reducible exact Below.refl _ _) | (with_reducible refine Below.setCell ?_ ?_ _) | (with_reducible refine Below.drew ?_) | (with_reducible refine Below.alloc ?_ ?_ _) | omega | (simp <;> omega)))) (HP.out.later (by repeat (first | (with_reducible exact Below.refl _ _) | (with_reducible refine Below.setCell ?_ ?_ _) | (with_reducible refine Below.drew ?_) | (with_reducible refine Below.alloc ?_ ?_ _) | omega | (simp <;> omega))))).mono ?_); clear v1; rintro e w1 ⟨rfl, hw1⟩)
  go_ret2
  exact ⟨rfl, by repeat (first | (with_reducible exact Below.refl _ _) | (with_reducible refine Below.setCell ?_ ?_ _) | (with_reducible refine Below.drew ?_) | (with_reducible refine Below.alloc ?_ ?_ _) | (with_reducible refine Below.trans ?_ (Below.mono hw1 ?_)) | (with_reducible exact hw1.size) | omega | (simp <;> omega) | (simp <;> (have s := hw1.size; omega)) | (have s0 := hw1.size; (try simp at s0); (try simp); omega))⟩
set_option maxHeartbeats 1600000 in
theorem turned_off (a b c r0 r1 : Int) (ao uo po : Option Addr) (cap uc pc : Nat) (L : List Q) (ns : List Int) (U : List Q) (M : List Sp) (w : World) (h : LiesO w ao L) (hu : LiesO w uo U) (hp : LiesOI w po (fl M)) (hr : numsR a b c L ns r0) (hv : vS L.length M r0 r1) (h0 : r1 = 0) (hl : ¬ U.length = M.length) (hlen : L.length ≤ 1000000) (hlm : M.length ≤ 1000000) : Calls Try.prog 21 #[.agg #[.int .i64 a, .int .i64 b, .int .i64 c, .slice ao L.length cap], .slice uo U.length uc, .slice po M.length pc] w fun e w' => e = .returned (.tuple #[.slice none 0 0, .int .i64 1]) ∧ Below w.heap.size w w' := by
  subst h0
  have H := Lib.hid h
  have HP := Lib.hid hp
  have v1 : ∀ W : World, LiesO W ao L → LiesOI W po (fl M) → Calls Try.prog 50 #[.agg #[.int .i64 a, .int .i64 b, .int .i64 c, .slice ao L.length cap], .slice po M.length pc] W fun e w' => e = .returned (.int .i64 0) ∧ Below W.heap.size W w' := fun W h h2 => validate7_any a b c r0 0 ao po cap pc L ns M W h h2 hr hv hlen hlm
  have i1 : ¬ (U.length : Int) = (M.length : Int) := by omega
  clear h hp hr hv hu hl
  go_enter Try.func21, Try.ntmps21
  go_wp2_with ((with_reducible refine (v1 _ (H.out.later (by repeat (first | (with_reducible exact Below.refl _ _) | (with_reducible refine Below.setCell ?_ ?_ _) | (with_reducible refine Below.drew ?_) | (with_reducible refine Below.alloc ?_ ?_ _) | omega | (simp <;> omega)))) (HP.out.later (by repeat (first | (with_reducible exact Below.refl _ _) | (with_reducible refine Below.setCell ?_ ?_ _) | (with_reducible refine Below.drew ?_) | (with_reducible refine Below.alloc ?_ ?_ _) | omega | (simp <;> omega))))).mono ?_); clear v1; rintro e w1 ⟨rfl, hw1⟩)
  go_ret2
  exact ⟨rfl, by repeat (first | (with_reducible exact Below.refl _ _) | (with_reducible refine Below.setCell ?_ ?_ _) | (with_reducible refine Below.drew ?_) | (with_reducible refine Below.alloc ?_ ?_ _) | (with_reducible refine Below.trans ?_ (Below.mono hw1 ?_)) | (with_reducible exact hw1.size) | omega | (simp <;> omega) | (simp <;> (have s := hw1.size; omega)) | (have s0 := hw1.size; (try simp at s0); (try simp); omega))⟩
set_option maxHeartbeats 6400000 in
theorem turned_on (a b c r0 r1 : Int) (ao uo po : Option Addr) (cap uc pc : Nat) (L : List Q) (ns : List Int) (U : List Q) (M : List Sp) (w : World) (h : LiesO w ao L) (hu : LiesO w uo U) (hp : LiesOI w po (fl M)) (hr : numsR a b c L ns r0) (hv : vS L.length M r0 r1) (h0 : r1 = 0) (hl : U.length = M.length) (hpos : 0 < M.length) (hlen : L.length ≤ 1000000) (hlm : M.length ≤ 1000000) : Calls Try.prog 21 #[.agg #[.int .i64 a, .int .i64 b, .int .i64 c, .slice ao L.length cap], .slice uo U.length uc, .slice po M.length pc] w fun e w' => ((AllU U ∧ RetV7 w.heap.size M.length (tuL U M) e w') ∨ (¬ AllU U ∧ e = .returned (.tuple #[.slice none 0 0, .int .i64 1]))) ∧ Below w.heap.size w w' := by
  subst h0
  obtain ⟨ub, uf, rfl, hU⟩ : ∃ b off, uo = some ⟨b, off, none⟩ ∧ Lies w b off U := by
    rcases hu with h | h
    · exact absurd hpos (by rw [← hl, h]; decide)
    · exact h
  obtain ⟨pb, pf, rfl, hP⟩ := lies_some hp (List.getElem?_eq_getElem hpos)
  have H := Lib.hid h
  have HP := Lib.hid hp
  have v1 : ∀ W : World, LiesO W ao L → LiesOI W (some ⟨pb, pf, none⟩) (fl M) → Calls Try.prog 50 #[.agg #[.int .i64 a, .int .i64 b, .int .i64 c, .slice ao L.length cap], .slice (some ⟨pb, pf, none⟩) M.length pc] W fun e w' => e = .returned (.int .i64 0) ∧ Below W.heap.size W w' := fun W h h2 => validate7_any a b c r0 0 ao (some ⟨pb, pf, none⟩) cap pc L ns M W h h2 hr hv hlen hlm
  have mk := fun (W : World) => makeS W M.length M.length rfl hlm
  have HU0 := Lib.hid hU
  have HP0 := Lib.hid hP
  have HLU := Lib.hid hl
  have HPO := Lib.hid hpos
  have hub : ub < w.heap.size := World.block_lt_of_cell? _ _ (hU 0 _ (List.getElem?_eq_getElem (by omega))).1
  have hpb := fl_lt hP hpos
  rw [hl]
  clear h hp hr hv hU hP hl hu hpos hlen
  have kc := @Tail.cell_re
  have kc1 : ∀ (W : World) (o : Obj) (d : Nat) (os : Array Obj) (a : Addr), a.block ≤ W.heap.size → (Sort.grow (redrawn (W.alloc o) d) os).cell? a = (W.alloc o).cell? a := fun W o d os a h => Tail.cell_re (W.alloc o) d os a (Nat.lt_of_le_of_lt h (by simp))
  go_enter Try.func21, Try.ntmps21
  go_wp2_with ((with_reducible refine (v1 _ (H.out.later (by repeat (first | (with_reducible exact Below.refl _ _) | (with_reducible refine Below.setCell ?_ ?_ _) | (with_reducible refine Below.drew ?_) | (with_reducible refine Below.alloc ?_ ?_ _) | omega | (simp <;> omega)))) (HP.out.later (by repeat (first | (with_reducible exact Below.refl _ _) | (with_reducible refine Below.setCell ?_ ?_ _) | (with_reducible refine Below.drew ?_) | (with_reducible refine Below.alloc ?_ ?_ _) | omega | (simp <;> omega))))).mono ?_); clear v1; rintro e w1 ⟨rfl, hw1⟩; have HW1 := Lib.hid (show Below w.heap.size w w1 by repeat (first | (with_reducible exact Below.refl _ _) | (with_reducible refine Below.setCell ?_ ?_ _) | (with_reducible refine Below.drew ?_) | (with_reducible refine Below.alloc ?_ ?_ _) | (with_reducible refine Below.trans ?_ (Below.mono hw1 ?_)) | (with_reducible exact hw1.size) | omega | (simp <;> omega) | (simp <;> (have s := hw1.size; omega)) | (have s0 := hw1.size; (try simp at s0); (try simp); omega))); clear hw1)
  have k0 : IBox (w1.alloc (.cells (madeCells sz.toArray (M.length * 4)) 95)) w1.heap.size (fl (tuK U M 0)) := by
    rw [tuK_zero]
    exact IBox.madeS (T := 95) (heap_alloc_new _ _) (by simp)
  have K0 := Lib.hid k0
  have B0 := Lib.hid (show Below w1.heap.size w1 (w1.alloc (.cells (madeCells sz.toArray (M.length * 4)) 95)) by repeat (first | (with_reducible exact Below.refl _ _) | (with_reducible refine Below.setCell ?_ ?_ _) | (with_reducible refine Below.drew ?_) | (with_reducible refine Below.alloc ?_ ?_ _) | omega | (simp <;> omega)))
  have HU := Lib.hid (HU0.out.later HW1.out)
  have HP1 := Lib.hid (HP0.out.later HW1.out)
  have hub1 : ub < w1.heap.size := Nat.lt_of_lt_of_le hub HW1.out.size
  have hpb1 : pb < w1.heap.size := Nat.lt_of_lt_of_le hpb HW1.out.size
  clear k0 hub hpb H HP HU0 HP0
  generalize w1.alloc (.cells (madeCells sz.toArray (M.length * 4)) 95) = W0 at *
  go_loopw [10, 11, 12, 13, 14, 31] (fun _ _ _ _ _ q wr => ∃ k : Nat, k ≤ M.length ∧ q = .int .i64 k ∧ Hid (∀ (i : Nat) (x : Q), i < k → U[i]? = some x → SmU x) ∧ Hid (IBox wr w1.heap.size (fl (tuK U M k))) ∧ Hid (Below w1.heap.size w1 wr)) (fun _ _ _ _ _ q _ => M.length - (intOf q).toNat)
  case atStart => exact ⟨0, by omega, rfl, Lib.hid (fun i x hi => by omega), K0, B0⟩
  case round =>
    obtain ⟨k, hk, rfl, hsm, hx, hb⟩ := hrel
    clear K0 B0
    by_cases hlt : k < M.length
    · have i1 : (k : Int) < (M.length : Int) := by omega
      have hku : k < U.length := by have := HLU.out; omega
      have eu : U[k]? = some U[k] := List.getElem?_eq_getElem hku
      have ex : M[k]? = some M[k] := List.getElem?_eq_getElem hlt
      obtain ⟨r, er, bq, cn, hq⟩ := num7 U[k]
      obtain ⟨l0, l1, l2, l3, l4⟩ := HU.out.later hb.out k _ eu
      have hlw : ub < wr.heap.size := Nat.lt_of_lt_of_le hub1 hb.out.size
      have hbs := hb.out.size
      rcases hq with ⟨hs, rfl⟩ | ⟨hs, rfl⟩
      · have ct := fun W : World => twice7_any U[k] W hs.n12
        have cm := fun W : World => times7_any (tw U[k]).w M[k] W
        have hset := tuK_set U M (k := k)
        rw [tuV_at eu ex] at hset
        have HS := Lib.hid hset
        have HX := Lib.hid ex
        have hsm' := Lib.hid (show ∀ (i : Nat) (x : Q), i < k + 1 → U[i]? = some x → SmU x from fun i x hi h => by
          by_cases h1 : i < k
          · exact hsm.out i x h1 h
          · obtain rfl : i = k := by omega
            rw [eu] at h
            cases h
            exact hs)
        clear hset hsm hs eu ex
        generalize U[k] = u at *
        generalize M[k] = x at *
        generalize (mulS (tw u).w x).w = v at *
        generalize (tw u).w = tq at *
        go_wp2_with ((with_reducible refine (cn _).mono ?_); clear cn; rintro e w2 ⟨rfl, hw2⟩)
        have bW : Below wr.heap.size wr w2 := by repeat (first | (with_reducible exact Below.refl _ _) | (with_reducible refine Below.setCell ?_ ?_ _) | (with_reducible refine Below.drew ?_) | (with_reducible refine Below.alloc ?_ ?_ _) | (with_reducible refine Below.trans ?_ (Below.mono hw2 ?_)) | (with_reducible exact hw2.size) | omega | (simp <;> omega) | (simp <;> (have s := hw2.size; omega)) | (have s0 := hw2.size; (try simp at s0); (try simp); omega))
        have hc2 := Tail.cells hw2
        have u0 : w2.cell? ⟨wr.heap.size, 0, none⟩ = some (.int .i64 u.a) := (hc2.1 _ _ (by simp)).trans (by simp [go_sem])
        have u1 : w2.cell? ⟨wr.heap.size, 1, none⟩ = some (.int .i64 u.b) := (hc2.1 _ _ (by simp)).trans (by simp [go_sem])
        have u2 : w2.cell? ⟨wr.heap.size, 2, none⟩ = some (.int .i64 u.c) := (hc2.1 _ _ (by simp)).trans (by simp [go_sem])
        have u3 : w2.cell? ⟨wr.heap.size, 3, none⟩ = some (.int .i64 u.d) := (hc2.1 _ _ (by simp)).trans (by simp [go_sem])
        have u4 : w2.cell? ⟨wr.heap.size, 4, none⟩ = some (.int .i64 u.n) := (hc2.1 _ _ (by simp)).trans (by simp [go_sem])
        have ult : wr.heap.size < w2.heap.size := Nat.lt_of_lt_of_le (by simp) hw2.size
        have X2 := Lib.hid (hx.out.later bW)
        have B2 := Lib.hid (hb.out.trans (bW.mono hb.out.size))
        obtain ⟨y0, y1, y2, y3⟩ := four_at (HP1.out.later B2.out) HX.out
        have plt : pb < w2.heap.size := World.block_lt_of_cell? _ _ y0
        have xlt := X2.out.lt
        clear l0 l1 l2 l3 l4 hlw hw2 hc2 bW hx hb
        refine Tail.region_tail_below 10 (by kernel_rfl) (by kernel_rfl) ?_
        simp only [List.take_succ_cons, List.take_zero, List.drop_succ_cons, List.drop_zero]
        repeat (go_big_quiet_step (first | (with_reducible exact Calls.regrown_of (ct _)) | (with_reducible exact Calls.regrown_of (cm _))))
        refine wpQuiet_nil ?_
        intro w3 hw3
        have X3 := Lib.hid (X2.out.later hw3)
        have B3 := Lib.hid (B2.out.trans (hw3.mono B2.out.size))
        clear u0 u1 u2 u3 u4 ult y0 y1 y2 y3 plt xlt hw3
        have hkl : k < (tuK U M k).length := by rw [tuK_len]; exact hlt
        obtain ⟨x0, x1, x2, x3⟩ := X3.out.four (List.getElem?_eq_getElem hkl)
        have xf := X3.out.free
        have xlt := X3.out.lt
        go_wp2
        have X4 := X3.out.put4 (s := k) hkl v
        rw [HS.out] at X4
        have HX4 := Lib.hid X4
        have B4 := Lib.hid (B3.out.grown (grown_four w3 w1.heap.size k v) B3.out.size (fun j hj => by simp at hj; omega))
        exact ⟨⟨k + 1, by omega, by go_num, hsm', HX4, B4⟩, by simp [intOf]; omega⟩
      · have hno : ¬ AllU U := fun h => hs (h k _ eu)
        have HNO := Lib.hid hno
        clear hno hs eu ex
        generalize U[k] = u at *
        go_wp2_with ((with_reducible refine (cn _).mono ?_); clear cn; rintro e w2 ⟨rfl, hw2⟩)
        all_goals
          go_ret2
          exact ⟨.inr ⟨HNO.out, rfl⟩, by repeat (first | (with_reducible exact Below.refl _ _) | (with_reducible refine Below.setCell ?_ ?_ _) | (with_reducible refine Below.drew ?_) | (with_reducible refine Below.alloc ?_ ?_ _) | (with_reducible refine Below.trans ?_ (Below.mono hw2 ?_)) | (with_reducible refine Below.trans ?_ (Below.mono hb.out ?_)) | (with_reducible refine Below.trans ?_ (Below.mono HW1.out ?_)) | (with_reducible exact hw2.size) | (with_reducible exact hb.out.size) | (with_reducible exact HW1.out.size) | omega | (simp <;> omega) | (simp <;> (have s := hw2.size; omega)) | (simp <;> (have s := hb.out.size; omega)) | (simp <;> (have s := HW1.out.size; omega)) | (have s0 := hw2.size; (try simp at s0); have s1 := hb.out.size; (try simp at s1); have s2 := HW1.out.size; (try simp at s2); (try simp); omega))⟩
    · obtain rfl : k = M.length := by omega
      have hall : AllU U := fun i x h => hsm.out i x (by have := (List.getElem?_eq_some_iff.1 h).1; have := HLU.out; omega) h
      have HALL := Lib.hid hall
      clear hall
      have hx2 := hx.out
      rw [tuK_end] at hx2
      have HX2 := Lib.hid hx2
      clear hx2
      go_wp2
      all_goals
        go_ret2
        exact ⟨.inl ⟨HALL.out, _, _, rfl, HX2.out, HW1.out.size⟩, HW1.out.trans (hb.out.mono HW1.out.size)⟩
end Go.Proofs.Ytojmagooapjohaa
