/- The hopping of a vector, as the document's answers make it.
Conditions: the field is valid and small, its links and the vector lie in memory. -/
import Derived.Test.YtopffllomiojmaaFermB
import Derived.Test.YtopffllomiojmaaFermM
namespace Go.Proofs.Ytopffllomiojmaa
set_option linter.unusedVariables false
set_option linter.unusedSimpArgs false
set_option maxRecDepth 1000000
open Go.RowKit
open Um Tm Fm

theorem val_one (p t m : Sp) (σ : Int) : (addS p.w (smS σ (mulS t.w m).w)).w = (addS p (mulS (smS σ t) m)).w := by
  rw [mulS_w_l, addS_w_l, mulS_sm, ← addS_w_r p (smS σ (mulS t m).w), smS_w, addS_w_r]
theorem val_two (p t m : Sp) (σ : Int) : (addS p.w (smS (-σ) (mulS (conS t).w m).w)).w = (addS p (mulS (flipS (smS σ t)) m)).w := by
  rw [val_one, flip_sm]
theorem grown_four (w : World) (g s : Nat) (y : Sp) : w.grownBy ((((w.setCell ⟨g, s * 4, none⟩ (.int .i64 y.a)).setCell ⟨g, s * 4 + 1, none⟩ (.int .i64 y.b)).setCell ⟨g, s * 4 + 2, none⟩ (.int .i64 y.c)).setCell ⟨g, s * 4 + 3, none⟩ (.int .i64 y.d)) (some g) :=
  (((grown_setCell w ⟨g, s * 4, none⟩ _).trans (grown_setCell _ ⟨g, s * 4 + 1, none⟩ _)).trans (grown_setCell _ ⟨g, s * 4 + 2, none⟩ _)).trans (grown_setCell _ ⟨g, s * 4 + 3, none⟩ _)
theorem sg3_rng (a b d s : Int) : -1 ≤ sg3 a b d s ∧ sg3 a b d s ≤ 1 := by
  unfold sg3
  split
  · omega
  · split <;> omega
theorem fac_at (a b c : Int) {L : List Q} {k : Nat} {u : Q} (h : L[k]? = some u) : arms a b c L (k + 1) = arms a b c L k ++ [⟨k / 3, nxl a b c k, smS (sg3 a b ((k : Int) % 3) ((k : Int) / 3)) (tw u)⟩] ++ [⟨nxl a b c k, k / 3, flipS (smS (sg3 a b ((k : Int) % 3) ((k : Int) / 3)) (tw u))⟩] := by
  show arms a b c L k ++ [arm1 a b c L k] ++ [arm2 a b c L k] = _
  unfold arm1 arm2
  rw [fac_eq a b h]
set_option maxHeartbeats 6400000 in
theorem refHop_any (a b c : Int) (bl off cap pb po pc n : Nat) (L : List Q) (M : List Sp) (w : World) (hF : Fld7 a b c L n) (hL : Lies w bl off L) (hM : LiesI w pb po (fl M)) (hn : M.length = n) : Calls Try.prog 52 #[.agg #[.int .i64 a, .int .i64 b, .int .i64 c, .slice (some ⟨bl, off, none⟩) L.length cap], .slice (some ⟨pb, po, none⟩) n pc] w fun e w' => (∃ g k : Nat, e = .returned (.slice (some ⟨g, 0, none⟩) n k) ∧ IBox w' g (fl (hopL n (arms a b c L L.length) M)) ∧ w.heap.size ≤ g) ∧ Below w.heap.size w w' := by
  have hps := hF.pos
  have HFF := Lib.hid hF
  have HL := Lib.hid hL
  have HM := Lib.hid hM
  have HN := Lib.hid hn
  have hl := hF.l
  have hL48 : L.length ≤ 48 := by omega
  have HLN := Lib.hid hl
  have hlm := fl_lt hM (by omega)
  have hll : bl < w.heap.size := World.block_lt_of_cell? _ _ (hL 0 _ (List.getElem?_eq_getElem (by omega))).1
  have mk := fun (W : World) => makeS W n n rfl (by omega)
  have HF0 := Lib.hid (show FBox ((w.alloc (.cells #[.int .i64 a, .int .i64 b, .int .i64 c, .slice (some ⟨bl, off, none⟩) L.length cap] 25)).alloc (.cells (madeCells sz.toArray (n * 4)) 64)) w.heap.size a b c (.slice (some ⟨bl, off, none⟩) L.length cap) by
    refine FBox.later ?_ ((Below.refl _ _).alloc (Nat.le_refl _) _)
    exact ⟨by simp [go_sem], by simp [go_sem], by simp [go_sem], by simp [go_sem], by simp⟩)
  have hg0 : (w.alloc (.cells #[.int .i64 a, .int .i64 b, .int .i64 c, .slice (some ⟨bl, off, none⟩) L.length cap] 25)).heap.size = w.heap.size + 1 := by simp
  have k0 : IBox ((w.alloc (.cells #[.int .i64 a, .int .i64 b, .int .i64 c, .slice (some ⟨bl, off, none⟩) L.length cap] 25)).alloc (.cells (madeCells sz.toArray (n * 4)) 64)) (w.heap.size + 1) (fl (hopL n (arms a b c L 0) M)) := by
    rw [show arms a b c L 0 = [] from rfl, hopL_nil, ← hg0]
    exact IBox.madeS (T := 64) (heap_alloc_new _ _) (by simp)
  have K0 := Lib.hid k0
  have HB0 := Lib.hid (show Below w.heap.size w ((w.alloc (.cells #[.int .i64 a, .int .i64 b, .int .i64 c, .slice (some ⟨bl, off, none⟩) L.length cap] 25)).alloc (.cells (madeCells sz.toArray (n * 4)) 64)) by repeat (first | (with_reducible exact Below.refl _ _) | (with_reducible refine Below.setCell ?_ ?_ _) | (with_reducible refine Below.drew ?_) | (with_reducible refine Below.alloc ?_ ?_ _) | omega | (simp <;> omega)))
  clear hF hL hM hn hl hg0 k0
  have kc := @Tail.cell_re
  have kc1 : ∀ (W : World) (o : Obj) (d : Nat) (os : Array Obj) (a : Addr), a.block ≤ W.heap.size → (Sort.grow (redrawn (W.alloc o) d) os).cell? a = (W.alloc o).cell? a := fun W o d os a h => Tail.cell_re (W.alloc o) d os a (Nat.lt_of_le_of_lt h (by simp))
  go_enter Try.func52, Try.ntmps52
  go_wp2
  generalize (w.alloc (.cells #[.int .i64 a, .int .i64 b, .int .i64 c, .slice (some ⟨bl, off, none⟩) L.length cap] 25)).alloc (.cells (madeCells sz.toArray (n * 4)) 64) = W0 at *
  go_loopw [6, 7, 8, 9] (fun q _ _ _ wr => ∃ k : Nat, k ≤ L.length ∧ q = .int .i64 k ∧ Hid (FBox wr w.heap.size a b c (.slice (some ⟨bl, off, none⟩) L.length cap)) ∧ Hid (IBox wr (w.heap.size + 1) (fl (hopL n (arms a b c L k) M))) ∧ Hid (Below w.heap.size w wr)) (fun q _ _ _ _ => L.length - (intOf q).toNat)
  case atStart => exact ⟨0, by omega, rfl, HF0, K0, HB0⟩
  case round =>
    obtain ⟨k, hk, rfl, hf, hx, hb⟩ := hrel
    clear HF0 K0 HB0
    obtain ⟨f0, f1, f2, f3, flt⟩ := hf.out
    by_cases hlt : k < L.length
    · have i1 : (k : Int) < (L.length : Int) := by omega
      have hu : L[k]? = some L[k] := List.getElem?_eq_getElem hlt
      obtain ⟨l0, l1, l2, l3, l4⟩ := HL.out.later hb.out k _ hu
      have hs0 : k / 3 < n := by have := HLN.out; omega
      have hsI : (k : Int) / 3 < a * b * c := by rw [← HFF.out.e]; omega
      have hny := nxl_rng HFF.out.z k
      have hyn : nxl a b c k < n := by have := HFF.out.e; omega
      obtain ⟨hN, rb, rc, rd⟩ := HFF.out.s k _ hu
      have ca := fun W : World => ahead_any a b c ((k : Int) / 3) ((k : Int) % 3) W HFF.out.z (by omega) hsI (by omega) (by omega)
      have ct := fun W : World => refTwice7_any L[k] W hN
      have cb := fun W : World => bar4_any L[k] W (.inr trivial) rb rc rd
      have ct2 := fun W : World => refTwice7_any (bar L[k]) W hN
      have cs := fun W : World => sign7_any a b c ((k : Int) / 3) ((k : Int) % 3) W HFF.out.z (by omega) hsI (by omega) (by omega)
      have cs2 := fun W : World => sign7_any a b c (nx a b c ((k : Int) / 3) ((k : Int) % 3 + 1)) ((k : Int) % 3) W HFF.out.z (nx_rng HFF.out.z _ _).1 (nx_rng HFF.out.z _ _).2 (by omega) (by omega)
      rw [sg3_next HFF.out.z (by omega) hsI (by omega) (by omega)] at cs2
      have ey : nx a b c ((k : Int) / 3) ((k : Int) % 3 + 1) = ((nxl a b c k : Nat) : Int) := by rw [hny.1]; simp
      rw [ey] at ca cs2
      rw [tw_bar] at ct2
      have hA := fac_at a b c hu
      obtain ⟨q1, q2⟩ := sg3_rng a b ((k : Int) % 3) ((k : Int) / 3)
      clear hN rb rc rd hu hny ey
      generalize L[k] = u at *
      generalize nxl a b c k = y at *
      generalize sg3 a b ((k : Int) % 3) ((k : Int) / 3) = σ at *
      have HA := Lib.hid hA
      have i4 : (k : Int) / 3 < (n : Int) := by omega
      have i5 : (0 : Int) ≤ (k : Int) / 3 := by omega
      have i6 : (y : Int) < (n : Int) := by omega
      have n1 : ((k : Int) / 3).toNat = k / 3 := by omega
      have e1 : (k : Int).tmod 3 = (k : Int) % 3 := Int.tmod_eq_emod_of_nonneg (by omega)
      have e2 : IntKind.i64.wrap (-σ) = -σ := IntWalk.i64_in _ (by omega)
      have hym : y < M.length := by have := HN.out; omega
      have hxm : k / 3 < M.length := by have := HN.out; omega
      have eY : at0 M y = M[y] := at0_of (List.getElem?_eq_getElem hym)
      have eX : at0 M (k / 3) = M[k / 3] := at0_of (List.getElem?_eq_getElem hxm)
      have hmy := Lib.hid (fun (W : World) (h : LiesI W pb po (fl M)) => four_at h (List.getElem?_eq_getElem hym))
      have hmx := Lib.hid (fun (W : World) (h : LiesI W pb po (fl M)) => four_at h (List.getElem?_eq_getElem hxm))
      have hq1 := hopL_at (arms a b c L k) M hs0
      have hq2 := hopL_at (arms a b c L k ++ [⟨k / 3, y, smS σ (tw u)⟩]) M hyn
      have S1 := hopL_snoc (n := n) (arms a b c L k) ⟨k / 3, y, smS σ (tw u)⟩ M _ hs0 rfl
      have S2 := hopL_snoc (n := n) (arms a b c L k ++ [⟨k / 3, y, smS σ (tw u)⟩]) ⟨y, k / 3, flipS (smS σ (tw u))⟩ M _ hyn rfl
      dsimp only at S1 S2
      rw [← hA] at S2
      have v1 := val_one (accS M (row (arms a b c L k) (k / 3))) (tw u) M[y] σ
      have v2 := val_two (accS M (row (arms a b c L k ++ [⟨k / 3, y, smS σ (tw u)⟩]) y)) (tw u) M[k / 3] σ
      rw [eY] at S1
      rw [eX] at S2
      have cm := fun W : World => refTimes7_any (tw u).w M[y] W
      have cm2 := fun W : World => refTimes7_any (conS (tw u)).w M[k / 3] W
      have cA := fun W : World => refAdd7_any (accS M (row (arms a b c L k) (k / 3))).w (mulS (tw u).w M[y]).w σ W
      have cA2 := fun W : World => refAdd7_any (accS M (row (arms a b c L k ++ [⟨k / 3, y, smS σ (tw u)⟩]) y)).w (mulS (conS (tw u)).w M[k / 3]).w (-σ) W
      rw [v1] at cA
      rw [v2] at cA2
      generalize arms a b c L k ++ [⟨k / 3, y, smS σ (tw u)⟩] = A1 at *
      generalize (addS (accS M (row (arms a b c L k) (k / 3))) (mulS (smS σ (tw u)) M[y])).w = V1 at *
      generalize (addS (accS M (row A1 y)) (mulS (flipS (smS σ (tw u))) M[k / 3])).w = V2 at *
      generalize (mulS (tw u).w M[y]).w = r1 at *
      generalize (mulS (conS (tw u)).w M[k / 3]).w = r2 at *
      generalize (accS M (row (arms a b c L k) (k / 3))).w = p1 at *
      generalize (accS M (row A1 y)).w = p2 at *
      generalize (tw u).w = t1 at *
      generalize (conS (tw u)).w = t2 at *
      generalize M[y] = my at *
      generalize M[k / 3] = mx at *
      have HS1 := Lib.hid S1
      have HS2 := Lib.hid S2
      have HQ1 := Lib.hid hq1
      have HQ2 := Lib.hid hq2
      clear v1 v2 eX eY hq1 hq2 hA S1 S2
      have hlw : bl < wr.heap.size := by omega
      go_wp2_with ((with_reducible refine (ca _).mono ?_); clear ca; rintro e w1 ⟨rfl, hw1⟩; have hc1 := Tail.cells hw1)
      have bW : Below wr.heap.size wr (w1.alloc (.cells #[.int .i64 u.a, .int .i64 u.b, .int .i64 u.c, .int .i64 u.d, .int .i64 u.n] 68)) := by repeat (first | (with_reducible exact Below.refl _ _) | (with_reducible refine Below.setCell ?_ ?_ _) | (with_reducible refine Below.drew ?_) | (with_reducible refine Below.alloc ?_ ?_ _) | (with_reducible refine Below.trans ?_ (Below.mono hw1 ?_)) | (with_reducible exact hw1.size) | omega | (simp <;> omega) | (simp <;> (have s := hw1.size; omega)) | (have s0 := hw1.size; (try simp at s0); (try simp); omega))
      have F1 := Lib.hid (hf.out.later bW)
      have X1 := Lib.hid (hx.out.later bW)
      have B1 := Lib.hid (hb.out.trans (bW.mono hb.out.size))
      have u0 : (w1.alloc (.cells #[.int .i64 u.a, .int .i64 u.b, .int .i64 u.c, .int .i64 u.d, .int .i64 u.n] 68)).cell? ⟨w1.heap.size, 0, none⟩ = some (.int .i64 u.a) := by simp [go_sem]
      have u1 : (w1.alloc (.cells #[.int .i64 u.a, .int .i64 u.b, .int .i64 u.c, .int .i64 u.d, .int .i64 u.n] 68)).cell? ⟨w1.heap.size, 1, none⟩ = some (.int .i64 u.b) := by simp [go_sem]
      have u2 : (w1.alloc (.cells #[.int .i64 u.a, .int .i64 u.b, .int .i64 u.c, .int .i64 u.d, .int .i64 u.n] 68)).cell? ⟨w1.heap.size, 2, none⟩ = some (.int .i64 u.c) := by simp [go_sem]
      have u3 : (w1.alloc (.cells #[.int .i64 u.a, .int .i64 u.b, .int .i64 u.c, .int .i64 u.d, .int .i64 u.n] 68)).cell? ⟨w1.heap.size, 3, none⟩ = some (.int .i64 u.d) := by simp [go_sem]
      have u4 : (w1.alloc (.cells #[.int .i64 u.a, .int .i64 u.b, .int .i64 u.c, .int .i64 u.d, .int .i64 u.n] 68)).cell? ⟨w1.heap.size, 4, none⟩ = some (.int .i64 u.n) := by simp [go_sem]
      have ult : w1.heap.size < (w1.alloc (.cells #[.int .i64 u.a, .int .i64 u.b, .int .i64 u.c, .int .i64 u.d, .int .i64 u.n] 68)).heap.size := by simp
      have hgu : w.heap.size + 1 < w1.heap.size := by have := hx.out.lt; have := hw1.size; omega
      clear f0 f1 f2 f3 flt l0 l1 l2 l3 l4 hf hx hb bW hw1 hc1 hlw
      generalize w1.alloc (.cells #[.int .i64 u.a, .int .i64 u.b, .int .i64 u.c, .int .i64 u.d, .int .i64 u.n] 68) = W1 at *
      generalize w1.heap.size = ub at *
      obtain ⟨f0, f1, f2, f3, flt⟩ := F1.out
      obtain ⟨x0, x1, x2, x3⟩ := X1.out.four HQ1.out
      have xlt := X1.out.lt
      obtain ⟨y0, y1, y2, y3⟩ := hmy.out _ (HM.out.later B1.out)
      have plt : pb < W1.heap.size := World.block_lt_of_cell? _ _ y0
      refine Tail.region_tail_below 20 (by kernel_rfl) (by kernel_rfl) ?_
      simp only [List.take_succ_cons, List.take_zero, List.drop_succ_cons, List.drop_zero]
      repeat (go_big_quiet_step (first | (with_reducible exact Calls.regrown_of (ct _)) | (with_reducible exact Calls.regrown_of (cm _)) | (with_reducible exact Calls.regrown_of (cs _)) | (with_reducible exact Calls.regrown_of (cA _))))
      refine wpQuiet_nil ?_
      intro w2 hw2
      have F2 := Lib.hid (F1.out.later hw2)
      have X2 := Lib.hid (X1.out.later hw2)
      have B2 := Lib.hid (B1.out.trans (hw2.mono B1.out.size))
      have tr : ∀ (o : Nat) (v : Value), W1.cell? ⟨ub, o, none⟩ = some v → w2.cell? ⟨ub, o, none⟩ = some v := fun o v h => (hw2.cell (p := ⟨ub, o, none⟩) ult).trans h
      have d0 := tr _ _ u0
      have d1 := tr _ _ u1
      have d2 := tr _ _ u2
      have d3 := tr _ _ u3
      have d4 := tr _ _ u4
      have dlt : ub < w2.heap.size := Nat.lt_of_lt_of_le ult hw2.size
      clear tr u0 u1 u2 u3 u4 ult f0 f1 f2 f3 flt x0 x1 x2 x3 xlt y0 y1 y2 y3 plt hw2
      obtain ⟨x0, x1, x2, x3⟩ := X2.out.four HQ1.out
      have xf := X2.out.free
      go_wp2
      have G3 := grown_four w2 (w.heap.size + 1) (k / 3) V1
      have X3 := X2.out.put4 (s := k / 3) (by rw [hopL_len]; exact hs0) V1
      rw [HS1.out] at X3
      have F3 := Lib.hid (F2.out.grown G3 (by simp))
      have B3 := Lib.hid (B2.out.grown G3 B2.out.size (fun j hj => by simp at hj; omega))
      have u0 := G3.cell d0 (by simp; omega)
      have u1 := G3.cell d1 (by simp; omega)
      have u2 := G3.cell d2 (by simp; omega)
      have u3 := G3.cell d3 (by simp; omega)
      have u4 := G3.cell d4 (by simp; omega)
      have ult := Nat.lt_of_lt_of_le dlt G3.size
      have HX3 := Lib.hid X3
      clear G3 X3 d0 d1 d2 d3 d4 dlt x0 x1 x2 x3 xf
      generalize (((w2.setCell ⟨w.heap.size + 1, k / 3 * 4, none⟩ (.int .i64 V1.a)).setCell ⟨w.heap.size + 1, k / 3 * 4 + 1, none⟩ (.int .i64 V1.b)).setCell ⟨w.heap.size + 1, k / 3 * 4 + 2, none⟩ (.int .i64 V1.c)).setCell ⟨w.heap.size + 1, k / 3 * 4 + 3, none⟩ (.int .i64 V1.d) = W3 at *
      obtain ⟨f0, f1, f2, f3, flt⟩ := F3.out
      obtain ⟨x0, x1, x2, x3⟩ := HX3.out.four HQ2.out
      have xlt := HX3.out.lt
      obtain ⟨y0, y1, y2, y3⟩ := hmx.out _ (HM.out.later B3.out)
      have plt : pb < W3.heap.size := World.block_lt_of_cell? _ _ y0
      refine Tail.region_tail_below 22 (by kernel_rfl) (by kernel_rfl) ?_
      simp only [List.take_succ_cons, List.take_zero, List.drop_succ_cons, List.drop_zero]
      repeat (go_big_quiet_step (first | (with_reducible exact Calls.regrown_of (cb _)) | (with_reducible exact Calls.regrown_of (ct2 _)) | (with_reducible exact Calls.regrown_of (cm2 _)) | (with_reducible exact Calls.regrown_of (cs2 _)) | (with_reducible exact Calls.regrown_of (cA2 _))))
      refine wpQuiet_nil ?_
      intro w4 hw4
      have F4 := Lib.hid (F3.out.later hw4)
      have X4 := Lib.hid (HX3.out.later hw4)
      have B4 := Lib.hid (B3.out.trans (hw4.mono B3.out.size))
      clear u0 u1 u2 u3 u4 ult f0 f1 f2 f3 flt x0 x1 x2 x3 xlt y0 y1 y2 y3 plt hw4
      obtain ⟨x0, x1, x2, x3⟩ := X4.out.four HQ2.out
      have xf := X4.out.free
      go_wp2
      have G5 := grown_four w4 (w.heap.size + 1) y V2
      have X5 := X4.out.put4 (s := y) (by rw [hopL_len]; exact hyn) V2
      rw [HS2.out] at X5
      have F5 := Lib.hid (F4.out.grown G5 (by simp))
      have B5 := Lib.hid (B4.out.grown G5 B4.out.size (fun j hj => by simp at hj; omega))
      exact ⟨⟨k + 1, by omega, by go_num, F5, Lib.hid X5, B5⟩, by simp [intOf]; omega⟩
    · obtain rfl : k = L.length := by omega
      go_wp2
      go_ret
      exact ⟨⟨w.heap.size + 1, n, rfl, hx.out, by omega⟩, hb.out⟩
end Go.Proofs.Ytopffllomiojmaa
