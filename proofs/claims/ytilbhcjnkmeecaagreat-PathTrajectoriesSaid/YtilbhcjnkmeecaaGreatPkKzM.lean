/- What the forces make of momenta, as the document's answers make it.
Conditions: those written at each theorem. -/
import Derived.Test.YtilbhcjnkmeecaaGreatPkKgC
import Derived.Test.YtilbhcjnkmeecaaGreatPkKorB
import Derived.Test.YtilbhcjnkmeecaaGreatPkWlk
import Derived.Test.YtilbhcjnkmeecaaGreatPkCopyC
import Derived.Test.YtilbhcjnkmeecaaGreatPkSamF
import Derived.Test.YtilbhcjnkmeecaaGreatPkKickB
namespace Go.Proofs.YtilbhcjnkmeecaaGreat
set_option linter.unusedVariables false
set_option linter.unusedSimpArgs false
set_option maxRecDepth 1000000
open Go.RowKit
open Um Tm Cm Km

theorem psh8 {p f v : Int} (h0 : 0 ≤ p) (h1 : p ≤ 7) (f0 : -8 ≤ f) (f1 : f ≤ 8) (hv : (p + f) % 8 = v) : (wrap64 ((p + f).tmod 8 + 8)).tmod 8 = v := by
  subst hv
  have hr : -8 < (p + f).tmod 8 ∧ (p + f).tmod 8 < 8 := by
    have h1 := Int.lt_tmod_of_pos (p + f) (b := 8) (by omega)
    have h2 := Int.tmod_lt_of_pos (p + f) (b := 8) (by omega)
    omega
  rw [show wrap64 ((p + f).tmod 8 + 8) = (p + f).tmod 8 + 8 from IntWalk.wrap64_in _ (by omega)]
  rw [Int.tmod_eq_emod_of_nonneg (a := (p + f).tmod 8 + 8)]
  · have : (p + f).tmod 8 = (p + f) % 8 ∨ (p + f).tmod 8 = (p + f) % 8 - 8 := by
      rw [Int.tmod_eq_emod]
      split <;> omega
    omega
  · have := Int.lt_tmod_of_pos (p + f) (b := 8) (by omega)
    omega
/-- momenta that are returned alone -/
def RetKL (m n : Nat) (l : List Int) (e : Ending) (w' : World) : Prop := ∃ g k : Nat, e = .returned (.slice (some ⟨g, 0, none⟩) n k) ∧ LiesI w' g 0 l ∧ m ≤ g
set_option maxHeartbeats 12800000 in
theorem refPush_any (a b c : Int) (bl off cap pb po pc n : Nat) (L : List Q) (l : List Int) (w : World) (h : Lies w bl off L) (hp : LiesI w pb po l) (hst : St a b c n L l) (hn0 : 0 < n) (h48 : n ≤ 48) : Calls Tryz.prog 32 #[.agg #[.int .i64 a, .int .i64 b, .int .i64 c, .slice (some ⟨bl, off, none⟩) n cap], .slice (some ⟨pb, po, none⟩) n pc] w fun e w' => RetKL w.heap.size n (psh (frc a b c L) l) e w' ∧ Below w.heap.size w w' := by
  obtain ⟨i0, hi, hz0, hz1, hz2⟩ := info_parts infoK
  have H := Lib.hid h
  have HP := Lib.hid hp
  have HL := Lib.hid hst.m
  have HA := Lib.hid hst.k
  have cF : ∀ (W : World) (i : Nat), Lies W bl off L → i < n → Calls Tryz.prog 65 #[.agg #[.int .i64 a, .int .i64 b, .int .i64 c, .slice (some ⟨bl, off, none⟩) n cap], .int .i64 i] W fun e w' => e = .returned (.agg #[.int .i64 (frc a b c L i).a, .int .i64 (frc a b c L i).b, .int .i64 (frc a b c L i).c]) ∧ Below W.heap.size W w' := fun W i h hi => by
    have := rforce_any a b c bl off cap L i W h hst.f hst.s (by rw [hst.e]; exact hi)
    rwa [hst.e] at this
  have HR := Lib.hid (fun (i : Nat) (hi : i < n) => frc_rng hst.f hst.s (show i < L.length by rw [hst.e]; exact hi))
  have HT := Lib.hid (show (psh (frc a b c L) l).length = n * 3 by rw [psh_len, hst.m])
  have HV := Lib.hid (fun (j i : Nat) (hi : i < 3) (h : j * 3 + i < l.length) => psh_at (frc a b c L) hi h)
  have HCF := Lib.hid cF
  clear h hp hst cF
  generalize psh (frc a b c L) l = T at *
  generalize frc a b c L = F at *
  have kc := @Tail.cell_re
  have kc1 : ∀ (W : World) (o : Obj) (d : Nat) (os : Array Obj) (a : Addr), a.block ≤ W.heap.size → (Sort.grow (redrawn (W.alloc o) d) os).cell? a = (W.alloc o).cell? a := fun W o d os a h => Tail.cell_re (W.alloc o) d os a (Nat.lt_of_le_of_lt h (by simp))
  go_enter Tryz.func32, Tryz.ntmps32
  go_wp2
  have TF0 : FW (w.alloc (.cells #[.int .i64 a, .int .i64 b, .int .i64 c, .slice (some ⟨bl, off, none⟩) n cap] 25)) w.heap.size a b c (.slice (some ⟨bl, off, none⟩) n cap) := ⟨by simp [go_sem], by simp [go_sem], by simp [go_sem], by simp [go_sem], fun j => by simp [go_sem], by simp⟩
  have HTF := Lib.hid TF0
  have hb0 : Below w.heap.size w (w.alloc (.cells #[.int .i64 a, .int .i64 b, .int .i64 c, .slice (some ⟨bl, off, none⟩) n cap] 25)) := by repeat (first | (with_reducible exact Below.refl _ _) | (with_reducible refine Below.setCell ?_ ?_ _) | (with_reducible refine Below.drew ?_) | (with_reducible refine Below.alloc ?_ ?_ _) | omega | (simp <;> omega))
  have HB0 := Lib.hid hb0
  clear TF0 hb0
  go_loopw [5, 6, 7, 8, 9] (fun f q _ _ _ wr => ∃ (k : Nat) (v : Value), k ≤ n ∧ q = .int .i64 k ∧ v = f ∧ Hid (wr.ownsRow (w.heap.size + 1) 38 3 v k ((T.take (k * 3)).map vi)) ∧ Hid (FW wr w.heap.size a b c (.slice (some ⟨bl, off, none⟩) n cap)) ∧ Hid (Below w.heap.size w wr)) (fun _ q _ _ _ _ => n - (intOf q).toNat)
  case atStart => exact ⟨0, _, by omega, rfl, rfl, Lib.hid (World.ownsRow_nil _ _ _ _), HTF, HB0⟩
  case round =>
    obtain ⟨k, v, hk, rfl, rfl, hown, hTF, hb⟩ := hrel
    clear HTF HB0
    by_cases hlt : k < n
    · have i1 : (k : Int) < (n : Int) := by omega
      have i2 : k * 3 + 2 < l.length := by have := HL.out; omega
      have i3 : k * 3 + 2 < T.length := by have := HT.out; omega
      have c1 := fun W h => HCF.out W k h hlt
      obtain ⟨⟨fa0, fa1⟩, ⟨fb0, fb1⟩, fc0, fc1⟩ := HR.out k hlt
      have v0 := HV.out k 0 (by omega) (by omega)
      have v1 := HV.out k 1 (by omega) (by omega)
      have v2 := HV.out k 2 (by omega) (by omega)
      simp only [Kk.at, Nat.add_zero, if_true, if_false, show ¬ (1 : Nat) = 0 by omega, show ¬ (2 : Nat) = 0 by omega, show ¬ (2 : Nat) = 1 by omega] at v0 v1 v2
      rw [List.getElem?_eq_getElem (by omega), Option.some.injEq] at v0 v1 v2
      have t1 := take3 i3
      obtain ⟨r0, r1⟩ := HA.out _ (List.getElem_mem (show k * 3 < l.length by omega))
      obtain ⟨r2, r3⟩ := HA.out _ (List.getElem_mem (show k * 3 + 1 < l.length by omega))
      obtain ⟨r4, r5⟩ := HA.out _ (List.getElem_mem i2)
      have X0 := Lib.hid (fun (W : World) (h : LiesI W pb po l) => h (k * 3) _ (List.getElem?_eq_getElem (show k * 3 < l.length by omega)))
      have X1 := Lib.hid (fun (W : World) (h : LiesI W pb po l) => h (k * 3 + 1) _ (List.getElem?_eq_getElem (show k * 3 + 1 < l.length by omega)))
      have X2 := Lib.hid (fun (W : World) (h : LiesI W pb po l) => h (k * 3 + 2) _ (List.getElem?_eq_getElem i2))
      generalize l[k * 3]'(by omega) = p0 at *
      generalize l[k * 3 + 1]'(by omega) = p1 at *
      generalize l[k * 3 + 2] = p2 at *
      generalize T[k * 3]'(by omega) = o0 at *
      generalize T[k * 3 + 1]'(by omega) = o1 at *
      generalize T[k * 3 + 2] = o2 at *
      generalize (F k).a = f0 at *
      generalize (F k).b = f1 at *
      generalize (F k).c = f2 at *
      have e0 := psh8 r0 r1 fa0 fa1 v0.symm
      have e1 := psh8 r2 r3 fb0 fb1 v1.symm
      have e2 := psh8 r4 r5 fc0 fc1 v2.symm
      have HE := Lib.hid t1
      clear v0 v1 v2 t1 i2 i3
      obtain ⟨tf0, tf1, tf2, tf3, tff, tfl⟩ := hTF.out
      have hbx := hb.out
      go_wp2_with (fail)
      refine (c1 _ (H.out.later hbx)).mono ?_
      clear c1
      rintro e w1 ⟨rfl, hw1⟩
      clear tf0 tf1 tf2 tf3 tff tfl
      have bR : Below wr.heap.size wr ((w1.alloc (.cells #[.int .i64 f0, .int .i64 f1, .int .i64 f2] 22)).alloc (.cells #[.int .i64 0, .int .i64 0, .int .i64 0] 38)) := by repeat (first | (with_reducible exact Below.refl _ _) | (with_reducible refine Below.setCell ?_ ?_ _) | (with_reducible refine Below.drew ?_) | (with_reducible refine Below.alloc ?_ ?_ _) | (with_reducible refine Below.trans ?_ (Below.mono hw1 ?_)) | (with_reducible exact hw1.size) | omega | (simp <;> omega) | (simp <;> (have s := hw1.size; omega)) | (have s0 := hw1.size; (try simp at s0); (try simp); omega))
      have FF : C3 ((w1.alloc (.cells #[.int .i64 f0, .int .i64 f1, .int .i64 f2] 22)).alloc (.cells #[.int .i64 0, .int .i64 0, .int .i64 0] 38)) w1.heap.size (.int .i64 f0) (.int .i64 f1) (.int .i64 f2) := ⟨by simp [go_sem], by simp [go_sem], by simp [go_sem], fun j => by simp [go_sem], by simp <;> omega⟩
      have FK : C3 ((w1.alloc (.cells #[.int .i64 f0, .int .i64 f1, .int .i64 f2] 22)).alloc (.cells #[.int .i64 0, .int .i64 0, .int .i64 0] 38)) (w1.heap.size + 1) (.int .i64 0) (.int .i64 0) (.int .i64 0) := ⟨by simp [go_sem], by simp [go_sem], by simp [go_sem], fun j => by simp [go_sem], by simp <;> omega⟩
      have g1 : wr.heap.size ≤ w1.heap.size := hw1.size
      have HF0 := Lib.hid FF
      have HK0 := Lib.hid FK
      have HR0 := Lib.hid bR
      clear FF FK bR hw1 hbx
      go_wp2
      generalize (w1.alloc (.cells #[.int .i64 f0, .int .i64 f1, .int .i64 f2] 22)).alloc (.cells #[.int .i64 0, .int .i64 0, .int .i64 0] 38) = W0 at *
      refine wp_loop_rounds 4 ?_
      rw [rounds_succ]
      obtain ⟨a00, a01, a02, aF0, aL0⟩ := HF0.out
      obtain ⟨b00, b01, b02, bF0, bL0⟩ := HK0.out
      have y0 := X0.out _ (HP.out.later (show Below w.heap.size w W0 by have h1 := HR0.out; have h2 := hb.out; repeat (first | (with_reducible exact Below.refl _ _) | (with_reducible refine Below.setCell ?_ ?_ _) | (with_reducible refine Below.drew ?_) | (with_reducible refine Below.alloc ?_ ?_ _) | (with_reducible refine Below.trans ?_ (Below.mono h1 ?_)) | (with_reducible refine Below.trans ?_ (Below.mono h2 ?_)) | (with_reducible exact h1.size) | (with_reducible exact h2.size) | omega | (simp <;> omega) | (simp <;> (have s := h1.size; omega)) | (simp <;> (have s := h2.size; omega)) | (have s0 := h1.size; (try simp at s0); have s1 := h2.size; (try simp at s1); (try simp); omega))))
      have pL0 : pb < W0.heap.size := World.block_lt_of_cell? _ _ y0
      try simp only [← Nat.add_assoc] at y0
      go_wp2
      refine Tail.region_tail_below 14 (by kernel_rfl) (by kernel_rfl) ?_
      simp only [List.take_succ_cons, List.take_zero, List.drop_succ_cons, List.drop_zero]
      repeat (go_big_quiet_step (fail))
      refine wpQuiet_nil ?_
      intro V0 hv0
      clear a00 a01 a02 aF0 aL0 b00 b01 b02 bF0 bL0 y0 pL0
      have KV := HK0.out.later hv0
      have FV := HF0.out.later hv0
      have RV := HR0.out.trans (hv0.mono HR0.out.size)
      obtain ⟨b00, b01, b02, bF0, bL0⟩ := KV
      have KV2 := Lib.hid ((HK0.out.later hv0).put0 (.int .i64 o0))
      have FV2 := Lib.hid (FV.far (grown_setCell V0 ⟨w1.heap.size + 1, 0, none⟩ (.int .i64 o0)) (by simp))
      have RV2 := Lib.hid (show Below wr.heap.size wr (V0.setCell ⟨w1.heap.size + 1, 0, none⟩ (.int .i64 o0)) by repeat (first | (with_reducible exact Below.refl _ _) | (with_reducible refine Below.setCell ?_ ?_ _) | (with_reducible refine Below.drew ?_) | (with_reducible refine Below.alloc ?_ ?_ _) | (with_reducible refine Below.trans ?_ (Below.mono RV ?_)) | (with_reducible exact RV.size) | omega | (simp <;> omega) | (simp <;> (have s := RV.size; omega)) | (have s0 := RV.size; (try simp at s0); (try simp); omega)))
      clear FV RV hv0 HK0 HF0 HR0
      go_wp2
      clear b00 b01 b02 bF0 bL0
      have HK1 := KV2
      have HF1 := FV2
      have HR1 := RV2
      clear KV2 FV2 RV2
      generalize V0.setCell ⟨w1.heap.size + 1, 0, none⟩ (.int .i64 o0) = W1 at *
      rw [rounds_succ]
      obtain ⟨a10, a11, a12, aF1, aL1⟩ := HF1.out
      obtain ⟨b10, b11, b12, bF1, bL1⟩ := HK1.out
      have y1 := X1.out _ (HP.out.later (show Below w.heap.size w W1 by have h1 := HR1.out; have h2 := hb.out; repeat (first | (with_reducible exact Below.refl _ _) | (with_reducible refine Below.setCell ?_ ?_ _) | (with_reducible refine Below.drew ?_) | (with_reducible refine Below.alloc ?_ ?_ _) | (with_reducible refine Below.trans ?_ (Below.mono h1 ?_)) | (with_reducible refine Below.trans ?_ (Below.mono h2 ?_)) | (with_reducible exact h1.size) | (with_reducible exact h2.size) | omega | (simp <;> omega) | (simp <;> (have s := h1.size; omega)) | (simp <;> (have s := h2.size; omega)) | (have s0 := h1.size; (try simp at s0); have s1 := h2.size; (try simp at s1); (try simp); omega))))
      have pL1 : pb < W1.heap.size := World.block_lt_of_cell? _ _ y1
      try simp only [← Nat.add_assoc] at y1
      go_wp2
      refine Tail.region_tail_below 14 (by kernel_rfl) (by kernel_rfl) ?_
      simp only [List.take_succ_cons, List.take_zero, List.drop_succ_cons, List.drop_zero]
      repeat (go_big_quiet_step (fail))
      refine wpQuiet_nil ?_
      intro V1 hv1
      clear a10 a11 a12 aF1 aL1 b10 b11 b12 bF1 bL1 y1 pL1
      have KV := HK1.out.later hv1
      have FV := HF1.out.later hv1
      have RV := HR1.out.trans (hv1.mono HR1.out.size)
      obtain ⟨b10, b11, b12, bF1, bL1⟩ := KV
      have KV2 := Lib.hid ((HK1.out.later hv1).put1 (.int .i64 o1))
      have FV2 := Lib.hid (FV.far (grown_setCell V1 ⟨w1.heap.size + 1, 1, none⟩ (.int .i64 o1)) (by simp))
      have RV2 := Lib.hid (show Below wr.heap.size wr (V1.setCell ⟨w1.heap.size + 1, 1, none⟩ (.int .i64 o1)) by repeat (first | (with_reducible exact Below.refl _ _) | (with_reducible refine Below.setCell ?_ ?_ _) | (with_reducible refine Below.drew ?_) | (with_reducible refine Below.alloc ?_ ?_ _) | (with_reducible refine Below.trans ?_ (Below.mono RV ?_)) | (with_reducible exact RV.size) | omega | (simp <;> omega) | (simp <;> (have s := RV.size; omega)) | (have s0 := RV.size; (try simp at s0); (try simp); omega)))
      clear FV RV hv1 HK1 HF1 HR1
      go_wp2
      clear b10 b11 b12 bF1 bL1
      have HK2 := KV2
      have HF2 := FV2
      have HR2 := RV2
      clear KV2 FV2 RV2
      generalize V1.setCell ⟨w1.heap.size + 1, 1, none⟩ (.int .i64 o1) = W2 at *
      rw [rounds_succ]
      obtain ⟨a20, a21, a22, aF2, aL2⟩ := HF2.out
      obtain ⟨b20, b21, b22, bF2, bL2⟩ := HK2.out
      have y2 := X2.out _ (HP.out.later (show Below w.heap.size w W2 by have h1 := HR2.out; have h2 := hb.out; repeat (first | (with_reducible exact Below.refl _ _) | (with_reducible refine Below.setCell ?_ ?_ _) | (with_reducible refine Below.drew ?_) | (with_reducible refine Below.alloc ?_ ?_ _) | (with_reducible refine Below.trans ?_ (Below.mono h1 ?_)) | (with_reducible refine Below.trans ?_ (Below.mono h2 ?_)) | (with_reducible exact h1.size) | (with_reducible exact h2.size) | omega | (simp <;> omega) | (simp <;> (have s := h1.size; omega)) | (simp <;> (have s := h2.size; omega)) | (have s0 := h1.size; (try simp at s0); have s1 := h2.size; (try simp at s1); (try simp); omega))))
      have pL2 : pb < W2.heap.size := World.block_lt_of_cell? _ _ y2
      try simp only [← Nat.add_assoc] at y2
      go_wp2
      refine Tail.region_tail_below 14 (by kernel_rfl) (by kernel_rfl) ?_
      simp only [List.take_succ_cons, List.take_zero, List.drop_succ_cons, List.drop_zero]
      repeat (go_big_quiet_step (fail))
      refine wpQuiet_nil ?_
      intro V2 hv2
      clear a20 a21 a22 aF2 aL2 b20 b21 b22 bF2 bL2 y2 pL2
      have KV := HK2.out.later hv2
      have FV := HF2.out.later hv2
      have RV := HR2.out.trans (hv2.mono HR2.out.size)
      obtain ⟨b20, b21, b22, bF2, bL2⟩ := KV
      have KV2 := Lib.hid ((HK2.out.later hv2).put2 (.int .i64 o2))
      have FV2 := Lib.hid (FV.far (grown_setCell V2 ⟨w1.heap.size + 1, 2, none⟩ (.int .i64 o2)) (by simp))
      have RV2 := Lib.hid (show Below wr.heap.size wr (V2.setCell ⟨w1.heap.size + 1, 2, none⟩ (.int .i64 o2)) by repeat (first | (with_reducible exact Below.refl _ _) | (with_reducible refine Below.setCell ?_ ?_ _) | (with_reducible refine Below.drew ?_) | (with_reducible refine Below.alloc ?_ ?_ _) | (with_reducible refine Below.trans ?_ (Below.mono RV ?_)) | (with_reducible exact RV.size) | omega | (simp <;> omega) | (simp <;> (have s := RV.size; omega)) | (have s0 := RV.size; (try simp at s0); (try simp); omega)))
      clear FV RV hv2 HK2 HF2 HR2
      go_wp2
      clear b20 b21 b22 bF2 bL2
      have HK3 := KV2
      have HF3 := FV2
      have HR3 := RV2
      clear KV2 FV2 RV2
      generalize V2.setCell ⟨w1.heap.size + 1, 2, none⟩ (.int .i64 o2) = W3 at *
      rw [rounds_succ]
      obtain ⟨b30, b31, b32, bF3, bL3⟩ := HK3.out
      have hr3 := HR3.out
      have hw3 : Below w.heap.size w W3 := by have h2 := hb.out; repeat (first | (with_reducible exact Below.refl _ _) | (with_reducible refine Below.setCell ?_ ?_ _) | (with_reducible refine Below.drew ?_) | (with_reducible refine Below.alloc ?_ ?_ _) | (with_reducible refine Below.trans ?_ (Below.mono hr3 ?_)) | (with_reducible refine Below.trans ?_ (Below.mono h2 ?_)) | (with_reducible exact hr3.size) | (with_reducible exact h2.size) | omega | (simp <;> omega) | (simp <;> (have s := hr3.size; omega)) | (simp <;> (have s := h2.size; omega)) | (have s0 := hr3.size; (try simp at s0); have s1 := h2.size; (try simp at s1); (try simp); omega))
      have s1 := hb.out.size
      have s3 := hr3.size
      go_wp2_with (at_builtin; refine wpList_append_own _ rfl (.tmp 38) (.tmp 40) 26 rfl (w.heap.size + 1) 38 i0 _ 3 24 Tryz.underlying26 hi hz0 hz1 hz2 rfl (by decide) v k ((T.take (k * 3)).map vi) rfl ((owned_later hown.out hr3).alloc _) ⟨W3.heap.size, 0, none⟩ 1 1 [vi o0, vi o1, vi o2] rfl rfl (three_news rfl (by simp [go_sem, vi]) (by simp [go_sem, vi]) (by simp [go_sem, vi])) (three_ones _ _ _) (by unfold maxLen; omega) (by omega) (by simp; omega) ?_; intro v' w4 hown4 hgrow4 _)
      have hfr := owned_from hown.out
      have b4 : Below w.heap.size w w4 := ((show Below w.heap.size w (W3.alloc (.cells #[.int .i64 o0, .int .i64 o1, .int .i64 o2] 38)) by repeat (first | (with_reducible exact Below.refl _ _) | (with_reducible refine Below.setCell ?_ ?_ _) | (with_reducible refine Below.drew ?_) | (with_reducible refine Below.alloc ?_ ?_ _) | (with_reducible refine Below.trans ?_ (Below.mono hw3 ?_)) | (with_reducible exact hw3.size) | omega | (simp <;> omega) | (simp <;> (have s := hw3.size; omega)) | (have s0 := hw3.size; (try simp at s0); (try simp); omega))).grown hgrow4 (by simp; omega) (fun j hj => by have := hfr j hj; omega))
      have ho : w4.ownsRow (w.heap.size + 1) 38 3 v' (k + 1) ((T.take ((k + 1) * 3)).map vi) := by rw [HE.out]; simpa using hown4
      have TF4 : FW w4 w.heap.size a b c (.slice (some ⟨bl, off, none⟩) n cap) := (hTF.out.later (show Below wr.heap.size wr (W3.alloc (.cells #[.int .i64 o0, .int .i64 o1, .int .i64 o2] 38)) by repeat (first | (with_reducible exact Below.refl _ _) | (with_reducible refine Below.setCell ?_ ?_ _) | (with_reducible refine Below.drew ?_) | (with_reducible refine Below.alloc ?_ ?_ _) | (with_reducible refine Below.trans ?_ (Below.mono hr3 ?_)) | (with_reducible exact hr3.size) | omega | (simp <;> omega) | (simp <;> (have s := hr3.size; omega)) | (have s0 := hr3.size; (try simp at s0); (try simp); omega)))).grown hgrow4 (fun e => by have := hfr _ e.symm; omega)
      have HO4 := Lib.hid ho
      have HT4 := Lib.hid TF4
      have HB4 := Lib.hid b4
      clear hown4 hgrow4 hown ho TF4 b4 hw3 hr3 b30 b31 b32 bF3 bL3
      go_wp2
      exact ⟨⟨k + 1, _, by omega, by go_num, rfl, HO4, HT4, HB4⟩, by simp [intOf]; omega⟩
    · obtain rfl : k = n := by omega
      obtain ⟨gv, cv, rfl, hgv, hli⟩ := owned_liesK hown.out hn0 (by rw [List.length_take, HT.out]; omega)
      have hli2 : LiesI wr gv 0 T := by rwa [← HT.out, List.take_length] at hli
      have HLI := Lib.hid hli2
      clear hown hli hli2
      go_wp2
      go_ret
      exact ⟨⟨gv, cv, rfl, HLI.out, by omega⟩, hb.out⟩
end Go.Proofs.YtilbhcjnkmeecaaGreat

/- A drift, as the document's answers make it.
Conditions: those written at each theorem. -/
namespace Go.Proofs.YtilbhcjnkmeecaaGreat
set_option linter.unusedVariables false
set_option linter.unusedSimpArgs false
set_option maxRecDepth 1000000
open Go.RowKit
open Um Tm Cm Km

theorem held5 {w v : World} {g b o i0 i1 i2 i3 i4 : Nat} {u0 u1 u2 u3 u4 x : Value} (hb : Below w.heap.size w v) (hne : b ≠ g) (h : w.cell? ⟨b, o, none⟩ = some x) : (((((v.setCell ⟨g, i0, none⟩ u0).setCell ⟨g, i1, none⟩ u1).setCell ⟨g, i2, none⟩ u2).setCell ⟨g, i3, none⟩ u3).setCell ⟨g, i4, none⟩ u4).cell? ⟨b, o, none⟩ = some x := by
  have ne : some b ≠ some g := fun h => hne (Option.some.inj h)
  exact (grown_setCell _ ⟨g, i4, none⟩ u4).cell ((grown_setCell _ ⟨g, i3, none⟩ u3).cell ((grown_setCell _ ⟨g, i2, none⟩ u2).cell ((grown_setCell _ ⟨g, i1, none⟩ u1).cell ((grown_setCell _ ⟨g, i0, none⟩ u0).cell (held_below hb h) ne) ne) ne) ne) ne
/-- a field that is returned alone -/
def RetFd (a b c : Int) (m n : Nat) (L : List Q) (e : Ending) (w' : World) : Prop := ∃ g k : Nat, e = .returned (.agg #[.int .i64 a, .int .i64 b, .int .i64 c, .slice (some ⟨g, 0, none⟩) n k]) ∧ LBox w' g L ∧ m ≤ g
set_option maxHeartbeats 12800000 in
theorem refDrift_any (a b c : Int) (bl off cap pb po pc n : Nat) (L : List Q) (l : List Int) (w : World) (h : Lies w bl off L) (hp : LiesI w pb po l) (hst : St a b c n L l) (hn0 : 0 < n) (h48 : n ≤ 48) : Calls Tryz.prog 34 #[.agg #[.int .i64 a, .int .i64 b, .int .i64 c, .slice (some ⟨bl, off, none⟩) n cap], .slice (some ⟨pb, po, none⟩) n pc] w fun e w' => RetFd a b c w.heap.size n (dft L l) e w' ∧ Below w.heap.size w w' := by
  have H := Lib.hid h
  have HP := Lib.hid hp
  have HL := Lib.hid hst.m
  have HE := Lib.hid hst.e
  have cC : ∀ W : World, Lies W bl off L → Calls Tryz.prog 10 #[.agg #[.int .i64 a, .int .i64 b, .int .i64 c, .slice (some ⟨bl, off, none⟩) n cap]] W fun e w' => (∃ g k : Nat, e = .returned (.agg #[.int .i64 a, .int .i64 b, .int .i64 c, .slice (some ⟨g, 0, none⟩) n k]) ∧ LBox w' g L ∧ W.heap.size ≤ g) ∧ Below W.heap.size W w' := fun W h => by
    have := refCopy_some a b c bl off cap L W h (by rw [hst.e]; exact hn0) (by rw [hst.e]; omega)
    rw [hst.e] at this
    exact this.mono fun e w' ⟨g, k, h1, h2, h3, h4⟩ => ⟨⟨g, k, h1, h2, h3⟩, h4⟩
  have HT := Lib.hid (show (dft L l).length = L.length from dft_len L l)
  have HG := Lib.hid (fun (k : Nat) (hk : k < L.length) => dft_get L l hk)
  have HK := Lib.hid (fun (k : Nat) => hst.k.at3 k)
  have HS := Lib.hid hst.s
  have HM := Lib.hid (fun (k : Nat) (hk : k < L.length) => (turn_S (hst.k.at3 k)).1.mul (hst.s _ (List.getElem_mem hk)))
  clear h hp hst
  generalize dft L l = T at *
  go_enter Tryz.func34, Tryz.ntmps34
  go_wp2_with (fail)
  refine (cC _ (H.out.later (by repeat (first | (with_reducible exact Below.refl _ _) | (with_reducible refine Below.setCell ?_ ?_ _) | (with_reducible refine Below.drew ?_) | (with_reducible refine Below.alloc ?_ ?_ _) | omega | (simp <;> omega))))).mono ?_
  clear cC
  rintro e w1 ⟨⟨g, kg, rfl, hLB, hg0⟩, hw1⟩
  have TF0 : FW ((w.alloc (.cells #[.int .i64 a, .int .i64 b, .int .i64 c, .slice (some ⟨bl, off, none⟩) n cap] 25)).alloc (.cells #[.int .i64 0, .int .i64 0, .int .i64 0, .slice none 0 0] 25)) w.heap.size a b c (.slice (some ⟨bl, off, none⟩) n cap) := ⟨by simp [go_sem], by simp [go_sem], by simp [go_sem], by simp [go_sem], fun j => by simp [go_sem], by simp <;> omega⟩
  have TR0 : FW ((w.alloc (.cells #[.int .i64 a, .int .i64 b, .int .i64 c, .slice (some ⟨bl, off, none⟩) n cap] 25)).alloc (.cells #[.int .i64 0, .int .i64 0, .int .i64 0, .slice none 0 0] 25)) (w.heap.size + 1) 0 0 0 (.slice none 0 0) := ⟨by simp [go_sem], by simp [go_sem], by simp [go_sem], by simp [go_sem], fun j => by simp [go_sem], by simp <;> omega⟩
  have s1 := hw1.size
  have hgl := hLB.lt
  simp at s1 hg0
  have TF1 := Lib.hid ((TF0.later hw1).later ((Below.refl w1.heap.size w1).alloc (Nat.le_refl _) (.cells #[.int .i64 a, .int .i64 b, .int .i64 c, .slice (some ⟨g, 0, none⟩) n kg] 25)))
  have TR1 := Lib.hid ((TR0.later hw1).later ((Below.refl w1.heap.size w1).alloc (Nat.le_refl _) (.cells #[.int .i64 a, .int .i64 b, .int .i64 c, .slice (some ⟨g, 0, none⟩) n kg] 25)))
  have TO1 : Hid (FW (w1.alloc (.cells #[.int .i64 a, .int .i64 b, .int .i64 c, .slice (some ⟨g, 0, none⟩) n kg] 25)) w1.heap.size a b c (.slice (some ⟨g, 0, none⟩) n kg)) := Lib.hid ⟨by simp [go_sem], by simp [go_sem], by simp [go_sem], by simp [go_sem], fun j => by simp [go_sem], by simp⟩
  have LB1 := Lib.hid (show LBox (w1.alloc (.cells #[.int .i64 a, .int .i64 b, .int .i64 c, .slice (some ⟨g, 0, none⟩) n kg] 25)) g (mixQ T L 0) by rw [mixQ_zero]; exact hLB.later ((Below.refl w1.heap.size w1).alloc (Nat.le_refl _) _))
  have HB1 := Lib.hid (show Below w.heap.size w (w1.alloc (.cells #[.int .i64 a, .int .i64 b, .int .i64 c, .slice (some ⟨g, 0, none⟩) n kg] 25)) by repeat (first | (with_reducible exact Below.refl _ _) | (with_reducible refine Below.setCell ?_ ?_ _) | (with_reducible refine Below.drew ?_) | (with_reducible refine Below.alloc ?_ ?_ _) | (with_reducible refine Below.trans ?_ (Below.mono hw1 ?_)) | (with_reducible exact hw1.size) | omega | (simp <;> omega) | (simp <;> (have s := hw1.size; omega)) | (have s0 := hw1.size; (try simp at s0); (try simp); omega)))
  clear TF0 TR0 hLB hw1
  go_wp2
  generalize w1.alloc (.cells #[.int .i64 a, .int .i64 b, .int .i64 c, .slice (some ⟨g, 0, none⟩) n kg] 25) = W0 at *
  generalize hto : w1.heap.size = to at *
  clear hto
  go_loopw [6] (fun q wr => ∃ k : Nat, k ≤ n ∧ q = .int .i64 k ∧ Hid (LBox wr g (mixQ T L k)) ∧ Hid (FW wr w.heap.size a b c (.slice (some ⟨bl, off, none⟩) n cap)) ∧ Hid (FW wr (w.heap.size + 1) 0 0 0 (.slice none 0 0)) ∧ Hid (FW wr to a b c (.slice (some ⟨g, 0, none⟩) n kg)) ∧ Hid (Below w.heap.size w wr)) (fun q _ => n - (intOf q).toNat)
  case atStart => exact ⟨0, by omega, rfl, LB1, TF1, TR1, TO1, HB1⟩
  case round =>
    obtain ⟨k, hk, rfl, hLB, hTF, hTR, hTO, hb⟩ := hrel
    clear LB1 TF1 TR1 TO1 HB1
    by_cases hlt : k < n
    · have i1 : (k : Int) < (n : Int) := by omega
      have i2 : k * 3 + 2 < l.length := by have := HL.out; omega
      have i4 : k < L.length := by have := HE.out; omega
      have p0c := HP.out.later hb.out (k * 3) _ (List.getElem?_eq_getElem (show k * 3 < l.length by omega))
      have p1c := HP.out.later hb.out (k * 3 + 1) _ (List.getElem?_eq_getElem (show k * 3 + 1 < l.length by omega))
      have p2c := HP.out.later hb.out (k * 3 + 2) _ (List.getElem?_eq_getElem i2)
      simp only [← Nat.add_assoc] at p1c p2c
      obtain ⟨l0c, l1c, l2c, l3c, l4c⟩ := H.out.later hb.out k _ (List.getElem?_eq_getElem i4)
      have hat : at3 l k = ⟨l[k * 3]'(by omega), l[k * 3 + 1]'(by omega), l[k * 3 + 2]⟩ := by
        unfold at3
        rw [List.getD_eq_getElem?_getD, List.getD_eq_getElem?_getD, List.getD_eq_getElem?_getD, List.getElem?_eq_getElem (by omega), List.getElem?_eq_getElem (by omega), List.getElem?_eq_getElem i2]
        rfl
      have hk3 := HK.out k
      have hget := HG.out k i4
      have hmul := HM.out k i4
      rw [hat] at hk3 hget hmul
      have c1 := fun W : World => refTurner_any ⟨l[k * 3]'(by omega), l[k * 3 + 1]'(by omega), l[k * 3 + 2]⟩ W hk3
      have hS := (turn_S hk3).1
      have hSx := HS.out _ (List.getElem_mem i4)
      have hsm := hmul.tw.2.2.2.1
      have c2 := fun W : World => refMul_good (turn ⟨l[k * 3]'(by omega), l[k * 3 + 1]'(by omega), l[k * 3 + 2]⟩) L[k] (low (mul (turn ⟨l[k * 3]'(by omega), l[k * 3 + 1]'(by omega), l[k * 3 + 2]⟩) L[k])) 0 W hS.V hSx.V (.inl ⟨by omega, rfl, rfl⟩)
      have hset : (mixQ T L k).set k (low (mul (turn ⟨l[k * 3]'(by omega), l[k * 3 + 1]'(by omega), l[k * 3 + 2]⟩) L[k])) = mixQ T L (k + 1) := mixQ_set HT.out i4 hget
      have hml : k < (mixQ T L k).length := by rw [mixQ_len HT.out k (by omega)]; exact i4
      have hx5 : (mixQ T L k)[k]? = some L[k] := (mixQ_at HT.out (Nat.le_refl _) i4).trans (List.getElem?_eq_getElem i4)
      have HSET := Lib.hid hset
      have HML := Lib.hid hml
      have HX5 := Lib.hid hx5
      clear hset hml hx5 hget hmul hsm hS hSx hk3 hat
      have nto : to ≠ g := by omega
      have nf : w.heap.size ≠ g := by omega
      have npb : pb ≠ g := by have := World.block_lt_of_cell? w _ (HP.out (k * 3) _ (List.getElem?_eq_getElem (show k * 3 < l.length by omega))); simp at this; omega
      have nbl : bl ≠ g := by have := World.block_lt_of_cell? w _ (H.out k _ (List.getElem?_eq_getElem i4)).1; simp at this; omega
      generalize l[k * 3]'(by omega) = p0 at *
      generalize l[k * 3 + 1]'(by omega) = p1 at *
      generalize l[k * 3 + 2] = p2 at *
      generalize L[k]'(by omega) = x at *
      generalize turn ⟨p0, p1, p2⟩ = t at *
      generalize low (mul t x) = y at *
      have f3 := hTF.out.c3
      have o3 := hTO.out.c3
      clear i2 i4
      go_wp2
      go_region_held3 (fun w' => w'.cell? ⟨to, 3, none⟩ = some (.slice (some ⟨g, 0, none⟩) n kg) ∧ w'.cell? ⟨w.heap.size, 3, none⟩ = some (.slice (some ⟨bl, off, none⟩) n cap) ∧ w'.cell? ⟨pb, po + k * 3, none⟩ = some (.int .i64 p0) ∧ w'.cell? ⟨pb, po + k * 3 + 1, none⟩ = some (.int .i64 p1) ∧ w'.cell? ⟨pb, po + k * 3 + 2, none⟩ = some (.int .i64 p2) ∧ w'.cell? ⟨bl, off + k * 5, none⟩ = some (.int .i64 x.a) ∧ w'.cell? ⟨bl, off + k * 5 + 1, none⟩ = some (.int .i64 x.b) ∧ w'.cell? ⟨bl, off + k * 5 + 2, none⟩ = some (.int .i64 x.c) ∧ w'.cell? ⟨bl, off + k * 5 + 3, none⟩ = some (.int .i64 x.d) ∧ w'.cell? ⟨bl, off + k * 5 + 4, none⟩ = some (.int .i64 x.n))
        (first
          | (with_reducible exact ⟨held5 bw2 nto o3, held5 bw2 nf f3, held5 bw2 npb p0c, held5 bw2 npb p1c, held5 bw2 npb p2c, held5 bw2 nbl l0c, held5 bw2 nbl l1c, held5 bw2 nbl l2c, held5 bw2 nbl l3c, held5 bw2 nbl l4c⟩)
          | (exact ⟨held_below (W := wr) (by repeat (first | (with_reducible exact Below.refl _ _) | (with_reducible refine Below.setCell ?_ ?_ _) | (with_reducible refine Below.drew ?_) | (with_reducible refine Below.alloc ?_ ?_ _) | (with_reducible refine Below.trans ?_ (Below.mono hv2 ?_)) | (with_reducible refine Below.trans ?_ (Below.mono hv1 ?_)) | (with_reducible exact hv2.size) | (with_reducible exact hv1.size) | omega | (simp <;> omega) | (simp <;> (have s := hv2.size; omega)) | (simp <;> (have s := hv1.size; omega)) | (have s0 := hv2.size; (try simp at s0); have s1 := hv1.size; (try simp at s1); (try simp); omega))) o3, held_below (W := wr) (by repeat (first | (with_reducible exact Below.refl _ _) | (with_reducible refine Below.setCell ?_ ?_ _) | (with_reducible refine Below.drew ?_) | (with_reducible refine Below.alloc ?_ ?_ _) | (with_reducible refine Below.trans ?_ (Below.mono hv2 ?_)) | (with_reducible refine Below.trans ?_ (Below.mono hv1 ?_)) | (with_reducible exact hv2.size) | (with_reducible exact hv1.size) | omega | (simp <;> omega) | (simp <;> (have s := hv2.size; omega)) | (simp <;> (have s := hv1.size; omega)) | (have s0 := hv2.size; (try simp at s0); have s1 := hv1.size; (try simp at s1); (try simp); omega))) f3, held_below (W := wr) (by repeat (first | (with_reducible exact Below.refl _ _) | (with_reducible refine Below.setCell ?_ ?_ _) | (with_reducible refine Below.drew ?_) | (with_reducible refine Below.alloc ?_ ?_ _) | (with_reducible refine Below.trans ?_ (Below.mono hv2 ?_)) | (with_reducible refine Below.trans ?_ (Below.mono hv1 ?_)) | (with_reducible exact hv2.size) | (with_reducible exact hv1.size) | omega | (simp <;> omega) | (simp <;> (have s := hv2.size; omega)) | (simp <;> (have s := hv1.size; omega)) | (have s0 := hv2.size; (try simp at s0); have s1 := hv1.size; (try simp at s1); (try simp); omega))) p0c, held_below (W := wr) (by repeat (first | (with_reducible exact Below.refl _ _) | (with_reducible refine Below.setCell ?_ ?_ _) | (with_reducible refine Below.drew ?_) | (with_reducible refine Below.alloc ?_ ?_ _) | (with_reducible refine Below.trans ?_ (Below.mono hv2 ?_)) | (with_reducible refine Below.trans ?_ (Below.mono hv1 ?_)) | (with_reducible exact hv2.size) | (with_reducible exact hv1.size) | omega | (simp <;> omega) | (simp <;> (have s := hv2.size; omega)) | (simp <;> (have s := hv1.size; omega)) | (have s0 := hv2.size; (try simp at s0); have s1 := hv1.size; (try simp at s1); (try simp); omega))) p1c, held_below (W := wr) (by repeat (first | (with_reducible exact Below.refl _ _) | (with_reducible refine Below.setCell ?_ ?_ _) | (with_reducible refine Below.drew ?_) | (with_reducible refine Below.alloc ?_ ?_ _) | (with_reducible refine Below.trans ?_ (Below.mono hv2 ?_)) | (with_reducible refine Below.trans ?_ (Below.mono hv1 ?_)) | (with_reducible exact hv2.size) | (with_reducible exact hv1.size) | omega | (simp <;> omega) | (simp <;> (have s := hv2.size; omega)) | (simp <;> (have s := hv1.size; omega)) | (have s0 := hv2.size; (try simp at s0); have s1 := hv1.size; (try simp at s1); (try simp); omega))) p2c, held_below (W := wr) (by repeat (first | (with_reducible exact Below.refl _ _) | (with_reducible refine Below.setCell ?_ ?_ _) | (with_reducible refine Below.drew ?_) | (with_reducible refine Below.alloc ?_ ?_ _) | (with_reducible refine Below.trans ?_ (Below.mono hv2 ?_)) | (with_reducible refine Below.trans ?_ (Below.mono hv1 ?_)) | (with_reducible exact hv2.size) | (with_reducible exact hv1.size) | omega | (simp <;> omega) | (simp <;> (have s := hv2.size; omega)) | (simp <;> (have s := hv1.size; omega)) | (have s0 := hv2.size; (try simp at s0); have s1 := hv1.size; (try simp at s1); (try simp); omega))) l0c, held_below (W := wr) (by repeat (first | (with_reducible exact Below.refl _ _) | (with_reducible refine Below.setCell ?_ ?_ _) | (with_reducible refine Below.drew ?_) | (with_reducible refine Below.alloc ?_ ?_ _) | (with_reducible refine Below.trans ?_ (Below.mono hv2 ?_)) | (with_reducible refine Below.trans ?_ (Below.mono hv1 ?_)) | (with_reducible exact hv2.size) | (with_reducible exact hv1.size) | omega | (simp <;> omega) | (simp <;> (have s := hv2.size; omega)) | (simp <;> (have s := hv1.size; omega)) | (have s0 := hv2.size; (try simp at s0); have s1 := hv1.size; (try simp at s1); (try simp); omega))) l1c, held_below (W := wr) (by repeat (first | (with_reducible exact Below.refl _ _) | (with_reducible refine Below.setCell ?_ ?_ _) | (with_reducible refine Below.drew ?_) | (with_reducible refine Below.alloc ?_ ?_ _) | (with_reducible refine Below.trans ?_ (Below.mono hv2 ?_)) | (with_reducible refine Below.trans ?_ (Below.mono hv1 ?_)) | (with_reducible exact hv2.size) | (with_reducible exact hv1.size) | omega | (simp <;> omega) | (simp <;> (have s := hv2.size; omega)) | (simp <;> (have s := hv1.size; omega)) | (have s0 := hv2.size; (try simp at s0); have s1 := hv1.size; (try simp at s1); (try simp); omega))) l2c, held_below (W := wr) (by repeat (first | (with_reducible exact Below.refl _ _) | (with_reducible refine Below.setCell ?_ ?_ _) | (with_reducible refine Below.drew ?_) | (with_reducible refine Below.alloc ?_ ?_ _) | (with_reducible refine Below.trans ?_ (Below.mono hv2 ?_)) | (with_reducible refine Below.trans ?_ (Below.mono hv1 ?_)) | (with_reducible exact hv2.size) | (with_reducible exact hv1.size) | omega | (simp <;> omega) | (simp <;> (have s := hv2.size; omega)) | (simp <;> (have s := hv1.size; omega)) | (have s0 := hv2.size; (try simp at s0); have s1 := hv1.size; (try simp at s1); (try simp); omega))) l3c, held_below (W := wr) (by repeat (first | (with_reducible exact Below.refl _ _) | (with_reducible refine Below.setCell ?_ ?_ _) | (with_reducible refine Below.drew ?_) | (with_reducible refine Below.alloc ?_ ?_ _) | (with_reducible refine Below.trans ?_ (Below.mono hv2 ?_)) | (with_reducible refine Below.trans ?_ (Below.mono hv1 ?_)) | (with_reducible exact hv2.size) | (with_reducible exact hv1.size) | omega | (simp <;> omega) | (simp <;> (have s := hv2.size; omega)) | (simp <;> (have s := hv1.size; omega)) | (have s0 := hv2.size; (try simp at s0); have s1 := hv1.size; (try simp at s1); (try simp); omega))) l4c⟩)
          | (exact ⟨held_below (W := wr) (by repeat (first | (with_reducible exact Below.refl _ _) | (with_reducible refine Below.setCell ?_ ?_ _) | (with_reducible refine Below.drew ?_) | (with_reducible refine Below.alloc ?_ ?_ _) | (with_reducible refine Below.trans ?_ (Below.mono hv1 ?_)) | (with_reducible exact hv1.size) | omega | (simp <;> omega) | (simp <;> (have s := hv1.size; omega)) | (have s0 := hv1.size; (try simp at s0); (try simp); omega))) o3, held_below (W := wr) (by repeat (first | (with_reducible exact Below.refl _ _) | (with_reducible refine Below.setCell ?_ ?_ _) | (with_reducible refine Below.drew ?_) | (with_reducible refine Below.alloc ?_ ?_ _) | (with_reducible refine Below.trans ?_ (Below.mono hv1 ?_)) | (with_reducible exact hv1.size) | omega | (simp <;> omega) | (simp <;> (have s := hv1.size; omega)) | (have s0 := hv1.size; (try simp at s0); (try simp); omega))) f3, held_below (W := wr) (by repeat (first | (with_reducible exact Below.refl _ _) | (with_reducible refine Below.setCell ?_ ?_ _) | (with_reducible refine Below.drew ?_) | (with_reducible refine Below.alloc ?_ ?_ _) | (with_reducible refine Below.trans ?_ (Below.mono hv1 ?_)) | (with_reducible exact hv1.size) | omega | (simp <;> omega) | (simp <;> (have s := hv1.size; omega)) | (have s0 := hv1.size; (try simp at s0); (try simp); omega))) p0c, held_below (W := wr) (by repeat (first | (with_reducible exact Below.refl _ _) | (with_reducible refine Below.setCell ?_ ?_ _) | (with_reducible refine Below.drew ?_) | (with_reducible refine Below.alloc ?_ ?_ _) | (with_reducible refine Below.trans ?_ (Below.mono hv1 ?_)) | (with_reducible exact hv1.size) | omega | (simp <;> omega) | (simp <;> (have s := hv1.size; omega)) | (have s0 := hv1.size; (try simp at s0); (try simp); omega))) p1c, held_below (W := wr) (by repeat (first | (with_reducible exact Below.refl _ _) | (with_reducible refine Below.setCell ?_ ?_ _) | (with_reducible refine Below.drew ?_) | (with_reducible refine Below.alloc ?_ ?_ _) | (with_reducible refine Below.trans ?_ (Below.mono hv1 ?_)) | (with_reducible exact hv1.size) | omega | (simp <;> omega) | (simp <;> (have s := hv1.size; omega)) | (have s0 := hv1.size; (try simp at s0); (try simp); omega))) p2c, held_below (W := wr) (by repeat (first | (with_reducible exact Below.refl _ _) | (with_reducible refine Below.setCell ?_ ?_ _) | (with_reducible refine Below.drew ?_) | (with_reducible refine Below.alloc ?_ ?_ _) | (with_reducible refine Below.trans ?_ (Below.mono hv1 ?_)) | (with_reducible exact hv1.size) | omega | (simp <;> omega) | (simp <;> (have s := hv1.size; omega)) | (have s0 := hv1.size; (try simp at s0); (try simp); omega))) l0c, held_below (W := wr) (by repeat (first | (with_reducible exact Below.refl _ _) | (with_reducible refine Below.setCell ?_ ?_ _) | (with_reducible refine Below.drew ?_) | (with_reducible refine Below.alloc ?_ ?_ _) | (with_reducible refine Below.trans ?_ (Below.mono hv1 ?_)) | (with_reducible exact hv1.size) | omega | (simp <;> omega) | (simp <;> (have s := hv1.size; omega)) | (have s0 := hv1.size; (try simp at s0); (try simp); omega))) l1c, held_below (W := wr) (by repeat (first | (with_reducible exact Below.refl _ _) | (with_reducible refine Below.setCell ?_ ?_ _) | (with_reducible refine Below.drew ?_) | (with_reducible refine Below.alloc ?_ ?_ _) | (with_reducible refine Below.trans ?_ (Below.mono hv1 ?_)) | (with_reducible exact hv1.size) | omega | (simp <;> omega) | (simp <;> (have s := hv1.size; omega)) | (have s0 := hv1.size; (try simp at s0); (try simp); omega))) l2c, held_below (W := wr) (by repeat (first | (with_reducible exact Below.refl _ _) | (with_reducible refine Below.setCell ?_ ?_ _) | (with_reducible refine Below.drew ?_) | (with_reducible refine Below.alloc ?_ ?_ _) | (with_reducible refine Below.trans ?_ (Below.mono hv1 ?_)) | (with_reducible exact hv1.size) | omega | (simp <;> omega) | (simp <;> (have s := hv1.size; omega)) | (have s0 := hv1.size; (try simp at s0); (try simp); omega))) l3c, held_below (W := wr) (by repeat (first | (with_reducible exact Below.refl _ _) | (with_reducible refine Below.setCell ?_ ?_ _) | (with_reducible refine Below.drew ?_) | (with_reducible refine Below.alloc ?_ ?_ _) | (with_reducible refine Below.trans ?_ (Below.mono hv1 ?_)) | (with_reducible exact hv1.size) | omega | (simp <;> omega) | (simp <;> (have s := hv1.size; omega)) | (have s0 := hv1.size; (try simp at s0); (try simp); omega))) l4c⟩)
          | go_keep)
        (first
          | ((with_reducible refine (c1 _).mono ?_); rintro e v1 ⟨rfl, hv1⟩)
          | ((with_reducible refine (c2 _).mono ?_); rintro e v2 ⟨rfl, hv2⟩; have bw2 : Below wr.heap.size wr v2 := (by repeat (first | (with_reducible exact Below.refl _ _) | (with_reducible refine Below.setCell ?_ ?_ _) | (with_reducible refine Below.drew ?_) | (with_reducible refine Below.alloc ?_ ?_ _) | (with_reducible refine Below.trans ?_ (Below.mono hv2 ?_)) | (with_reducible refine Below.trans ?_ (Below.mono hv1 ?_)) | (with_reducible exact hv2.size) | (with_reducible exact hv1.size) | omega | (simp <;> omega) | (simp <;> (have s := hv2.size; omega)) | (simp <;> (have s := hv1.size; omega)) | (have s0 := hv2.size; (try simp at s0); have s1 := hv1.size; (try simp at s1); (try simp); omega))); have B2 := Lib.hid (hLB.out.later bw2); obtain ⟨x0, x1, x2, x3, x4⟩ := B2.out.at HX5.out; have xf := B2.out.free; have xl := B2.out.lt))
      have B3 := B2.out.put k HML.out y
      rw [HSET.out] at B3
      have GS := grown_setCells g [.int .i64 y.a, .int .i64 y.b, .int .i64 y.c, .int .i64 y.d, .int .i64 y.n] (k * 5) v2
      have TF3 := Lib.hid ((hTF.out.later bw2).grown GS (by simp; omega))
      have TR3 := Lib.hid ((hTR.out.later bw2).grown GS (by simp; omega))
      have TO3 := Lib.hid ((hTO.out.later bw2).grown GS (by simp; omega))
      have hb2 := hb.out
      have HB3 := Lib.hid ((show Below w.heap.size w v2 by repeat (first | (with_reducible exact Below.refl _ _) | (with_reducible refine Below.setCell ?_ ?_ _) | (with_reducible refine Below.drew ?_) | (with_reducible refine Below.alloc ?_ ?_ _) | (with_reducible refine Below.trans ?_ (Below.mono bw2 ?_)) | (with_reducible refine Below.trans ?_ (Below.mono hb2 ?_)) | (with_reducible exact bw2.size) | (with_reducible exact hb2.size) | omega | (simp <;> omega) | (simp <;> (have s := bw2.size; omega)) | (simp <;> (have s := hb2.size; omega)) | (have s0 := bw2.size; (try simp at s0); have s1 := hb2.size; (try simp at s1); (try simp); omega))).grown GS (by have := hb2.size; have := bw2.size; omega) (fun j hj => by simp at hj; omega))
      have LB3 := Lib.hid B3
      clear B3 GS x0 x1 x2 x3 x4 xf xl hv1 hv2 bw2 B2
      go_wp2
      exact ⟨⟨k + 1, by omega, by go_num, LB3, TF3, TR3, TO3, HB3⟩, by simp [intOf]; omega⟩
    · obtain rfl : k = n := by omega
      obtain ⟨o0, o1, o2, o3, of, ol⟩ := hTO.out
      obtain ⟨t0, t1, t2, t3, tf, tl⟩ := hTR.out
      have hb2 := hb.out
      have hfin : mixQ T L k = T := by rw [← HE.out]; exact mixQ_end HT.out
      have hLT := hLB.out
      rw [hfin] at hLT
      have Gs := grown_setCells (w.heap.size + 1) [.int .i64 a, .int .i64 b, .int .i64 c, .slice (some ⟨g, 0, none⟩) k kg] 0 wr
      have HLT := Lib.hid hLT
      clear hLT hfin
      go_wp2
      refine bodyPost_ret (v := .agg #[.int .i64 a, .int .i64 b, .int .i64 c, .slice (some ⟨g, 0, none⟩) k kg]) (by simp [results, Tryz.results34, go_sem, o0, o1, o2, o3, t0, t1, t2, t3, tl]) rfl ⟨⟨g, kg, rfl, HLT.out.grown Gs (by simp; omega), by omega⟩, ?_⟩
      repeat (first | (with_reducible exact Below.refl _ _) | (with_reducible refine Below.setCell ?_ ?_ _) | (with_reducible refine Below.drew ?_) | (with_reducible refine Below.alloc ?_ ?_ _) | (with_reducible refine Below.trans ?_ (Below.mono hb2 ?_)) | (with_reducible exact hb2.size) | omega | (simp <;> omega) | (simp <;> (have s := hb2.size; omega)) | (have s0 := hb2.size; (try simp at s0); (try simp); omega))
end Go.Proofs.YtilbhcjnkmeecaaGreat

/- Steps and runs, as the document's answers make them.
Conditions: those written at each theorem. -/
namespace Go.Proofs.YtilbhcjnkmeecaaGreat
set_option linter.unusedVariables false
set_option linter.unusedSimpArgs false
set_option maxRecDepth 1000000
open Go.RowKit
open Um Tm Cm Km

theorem lies_grown {w w1 : World} {b off : Nat} {L : List Q} {row : Option Nat} (h : Lies w b off L) (hg : w.grownBy w1 row) (ne : some b ≠ row) : Lies w1 b off L := fun i x hx => by
  obtain ⟨x0, x1, x2, x3, x4⟩ := h i x hx
  exact ⟨hg.cell x0 ne, hg.cell x1 ne, hg.cell x2 ne, hg.cell x3 ne, hg.cell x4 ne⟩
/-- a field and momenta that are returned -/
def RetSt (a b c : Int) (m n : Nat) (s : List Q × List Int) (e : Ending) (w' : World) : Prop := ∃ g k gm km : Nat, e = .returned (.tuple #[.agg #[.int .i64 a, .int .i64 b, .int .i64 c, .slice (some ⟨g, 0, none⟩) n k], .slice (some ⟨gm, 0, none⟩) n km]) ∧ Lies w' g 0 s.1 ∧ LiesI w' gm 0 s.2 ∧ m ≤ g ∧ m ≤ gm
set_option maxHeartbeats 12800000 in
theorem refStep_any (a b c : Int) (bl off cap pb po pc n : Nat) (L : List Q) (l : List Int) (w : World) (h : Lies w bl off L) (hp : LiesI w pb po l) (hst : St a b c n L l) (hn0 : 0 < n) (h48 : n ≤ 48) : Calls Tryz.prog 35 #[.agg #[.int .i64 a, .int .i64 b, .int .i64 c, .slice (some ⟨bl, off, none⟩) n cap], .slice (some ⟨pb, po, none⟩) n pc] w fun e w' => RetSt a b c w.heap.size n (stp a b c (L, l)) e w' ∧ Below w.heap.size w w' := by
  have H := Lib.hid h
  have HP := Lib.hid hp
  have c1 := fun (W : World) (h1 : Lies W bl off L) (h2 : LiesI W pb po l) => refPush_any a b c bl off cap pb po pc n L l W h1 h2 hst hn0 h48
  have hst1 := hst.push (frc a b c L)
  have hst2 := hst1.drift
  obtain ⟨l1, hl1⟩ : ∃ l1, psh (frc a b c L) l = l1 := ⟨_, rfl⟩
  rw [hl1] at c1 hst1 hst2
  obtain ⟨L1, hL1⟩ : ∃ L1, dft L l1 = L1 := ⟨_, rfl⟩
  have c2 := fun (W : World) (gm km : Nat) (h1 : Lies W bl off L) (h2 : LiesI W gm 0 l1) => refDrift_any a b c bl off cap gm 0 km n L l1 W h1 h2 hst1 hn0 h48
  rw [hL1] at c2 hst2
  have c3 := fun (W : World) (g k gm km : Nat) (h1 : Lies W g 0 L1) (h2 : LiesI W gm 0 l1) => refPush_any a b c g 0 k gm 0 km n L1 l1 W h1 h2 hst2 hn0 h48
  have hs : stp a b c (L, l) = (L1, psh (frc a b c L1) l1) := by
    unfold stp
    simp only [hl1, hL1]
  rw [hs]
  generalize psh (frc a b c L1) l1 = l2 at *
  clear h hp hst hst1 hst2 hl1 hL1 hs
  go_enter Tryz.func35, Tryz.ntmps35
  go_wp2_with (fail)
  refine (c1 _ (H.out.later ba2) (HP.out.later ba2)).mono ?_
  clear c1
  rintro e w1 ⟨⟨g1, k1, rfl, hi1, hg1⟩, hw1⟩
  have TF0 : FW ((w.alloc (.cells #[.int .i64 a, .int .i64 b, .int .i64 c, .slice (some ⟨bl, off, none⟩) n cap] 25)).alloc (.cells #[.int .i64 0, .int .i64 0, .int .i64 0, .slice none 0 0] 25)) w.heap.size a b c (.slice (some ⟨bl, off, none⟩) n cap) := ⟨by simp [go_sem], by simp [go_sem], by simp [go_sem], by simp [go_sem], fun j => by simp [go_sem], by simp <;> omega⟩
  have TR0 : FW ((w.alloc (.cells #[.int .i64 a, .int .i64 b, .int .i64 c, .slice (some ⟨bl, off, none⟩) n cap] 25)).alloc (.cells #[.int .i64 0, .int .i64 0, .int .i64 0, .slice none 0 0] 25)) (w.heap.size + 1) 0 0 0 (.slice none 0 0) := ⟨by simp [go_sem], by simp [go_sem], by simp [go_sem], by simp [go_sem], fun j => by simp [go_sem], by simp <;> omega⟩
  have TF1 := Lib.hid (TF0.later hw1)
  have TR1 := Lib.hid (TR0.later hw1)
  have HB1 := Lib.hid (bel2 hw1)
  have HI1 := Lib.hid hi1
  have q1 : w.heap.size + 1 < g1 := by simp at hg1; omega
  clear TF0 TR0 hw1 hi1 hg1
  obtain ⟨f0, f1, f2, f3, ff, fl⟩ := TF1.out
  go_wp2_with (fail)
  refine (c2 _ _ _ (H.out.later HB1.out) HI1.out).mono ?_
  clear c2
  rintro e w2 ⟨⟨g2, k2, rfl, hb2, hg2⟩, hw2⟩
  clear f0 f1 f2 f3 ff fl
  have q2 : w.heap.size + 1 < g2 := by have := TR1.out.lt; omega
  have TF2 := Lib.hid (TF1.out.later hw2)
  have TR2 := Lib.hid (TR1.out.later hw2)
  have HB2 := Lib.hid (HB1.out.trans (hw2.mono HB1.out.size))
  have HI2 := Lib.hid (HI1.out.later hw2)
  have HL2 := Lib.hid hb2.h
  clear TF1 TR1 HB1 HI1 hw2 hb2 hg2
  obtain ⟨f0, f1, f2, f3, ff, fl⟩ := TF2.out
  have TF3 := Lib.hid (TF2.out.set4 a b c (.slice (some ⟨g2, 0, none⟩) n k2))
  have Gs : w2.grownBy _ (some w.heap.size) := grown4 (w := w2) w.heap.size (.int .i64 a) (.int .i64 b) (.int .i64 c) (.slice (some ⟨g2, 0, none⟩) n k2)
  have TR3 := Lib.hid (TR2.out.grown Gs (by simp))
  have HI3 := Lib.hid (LiesI.grown HI2.out Gs (by simp; omega))
  have HL3 := Lib.hid (lies_grown HL2.out Gs (by simp; omega))
  have HB3 := Lib.hid (HB2.out.grown Gs HB2.out.size (fun j hj => by simp at hj; omega))
  go_wp2_with (fail)
  clear f0 f1 f2 f3 ff fl TF2 TR2 HI2 HL2 HB2 Gs
  generalize (((w2.setCell ⟨w.heap.size, 0, none⟩ (.int .i64 a)).setCell ⟨w.heap.size, 1, none⟩ (.int .i64 b)).setCell ⟨w.heap.size, 2, none⟩ (.int .i64 c)).setCell ⟨w.heap.size, 3, none⟩ (.slice (some ⟨g2, 0, none⟩) n k2) = W3 at *
  obtain ⟨f0, f1, f2, f3, ff, fl⟩ := TF3.out
  have nf : w.heap.size ≠ w.heap.size + 1 := by omega
  go_region_held3 (fun w' => w'.cell? ⟨w.heap.size, 0, none⟩ = some (.int .i64 a) ∧ w'.cell? ⟨w.heap.size, 1, none⟩ = some (.int .i64 b) ∧ w'.cell? ⟨w.heap.size, 2, none⟩ = some (.int .i64 c) ∧ w'.cell? ⟨w.heap.size, 3, none⟩ = some (.slice (some ⟨g2, 0, none⟩) n k2))
    (first
      | (with_reducible exact ⟨held4 bw3 nf f0, held4 bw3 nf f1, held4 bw3 nf f2, held4 bw3 nf f3⟩)
      | (exact ⟨held_below (W := W3) (by repeat (first | (with_reducible exact Below.refl _ _) | (with_reducible refine Below.setCell ?_ ?_ _) | (with_reducible refine Below.drew ?_) | (with_reducible refine Below.alloc ?_ ?_ _) | (with_reducible refine Below.trans ?_ (Below.mono hv3 ?_)) | (with_reducible exact hv3.size) | omega | (simp <;> omega) | (simp <;> (have s := hv3.size; omega)) | (have s0 := hv3.size; (try simp at s0); (try simp); omega))) f0, held_below (W := W3) (by repeat (first | (with_reducible exact Below.refl _ _) | (with_reducible refine Below.setCell ?_ ?_ _) | (with_reducible refine Below.drew ?_) | (with_reducible refine Below.alloc ?_ ?_ _) | (with_reducible refine Below.trans ?_ (Below.mono hv3 ?_)) | (with_reducible exact hv3.size) | omega | (simp <;> omega) | (simp <;> (have s := hv3.size; omega)) | (have s0 := hv3.size; (try simp at s0); (try simp); omega))) f1, held_below (W := W3) (by repeat (first | (with_reducible exact Below.refl _ _) | (with_reducible refine Below.setCell ?_ ?_ _) | (with_reducible refine Below.drew ?_) | (with_reducible refine Below.alloc ?_ ?_ _) | (with_reducible refine Below.trans ?_ (Below.mono hv3 ?_)) | (with_reducible exact hv3.size) | omega | (simp <;> omega) | (simp <;> (have s := hv3.size; omega)) | (have s0 := hv3.size; (try simp at s0); (try simp); omega))) f2, held_below (W := W3) (by repeat (first | (with_reducible exact Below.refl _ _) | (with_reducible refine Below.setCell ?_ ?_ _) | (with_reducible refine Below.drew ?_) | (with_reducible refine Below.alloc ?_ ?_ _) | (with_reducible refine Below.trans ?_ (Below.mono hv3 ?_)) | (with_reducible exact hv3.size) | omega | (simp <;> omega) | (simp <;> (have s := hv3.size; omega)) | (have s0 := hv3.size; (try simp at s0); (try simp); omega))) f3⟩)
      | go_keep)
    (((with_reducible refine (c3 _ _ _ _ _ (HL3.out.later (by repeat (first | (with_reducible exact Below.refl _ _) | (with_reducible refine Below.setCell ?_ ?_ _) | (with_reducible refine Below.drew ?_) | (with_reducible refine Below.alloc ?_ ?_ _) | omega | (simp <;> omega)))) (HI3.out.later (by repeat (first | (with_reducible exact Below.refl _ _) | (with_reducible refine Below.setCell ?_ ?_ _) | (with_reducible refine Below.drew ?_) | (with_reducible refine Below.alloc ?_ ?_ _) | omega | (simp <;> omega))))).mono ?_); rintro e v3 ⟨⟨g3, k3, rfl, hi3, hg3⟩, hv3⟩; have bw3 : Below W3.heap.size W3 v3 := (by repeat (first | (with_reducible exact Below.refl _ _) | (with_reducible refine Below.setCell ?_ ?_ _) | (with_reducible refine Below.drew ?_) | (with_reducible refine Below.alloc ?_ ?_ _) | (with_reducible refine Below.trans ?_ (Below.mono hv3 ?_)) | (with_reducible exact hv3.size) | omega | (simp <;> omega) | (simp <;> (have s := hv3.size; omega)) | (have s0 := hv3.size; (try simp at s0); (try simp); omega))); obtain ⟨r0, r1, r2, r3, rf, rl⟩ := TR3.out.later bw3))
  have Gr := grown4 (w := v3) (w.heap.size + 1) (.int .i64 a) (.int .i64 b) (.int .i64 c) (.slice (some ⟨g2, 0, none⟩) n k2)
  have q3 : w.heap.size + 1 < g3 := by have := TR3.out.lt; have hh := hg3; simp at hh; omega
  have HL4 := lies_grown (HL3.out.later bw3) Gr (by simp; omega)
  have HI4 := LiesI.grown hi3 Gr (by simp; omega)
  have hb3 := HB3.out
  go_wp2
  refine bodyPost_ret (v := .tuple #[.agg #[.int .i64 a, .int .i64 b, .int .i64 c, .slice (some ⟨g2, 0, none⟩) n k2], .slice (some ⟨g3, 0, none⟩) n k3]) (by simp [results, Tryz.results35, go_sem, r0, r1, r2, r3, rl]) rfl ⟨⟨g2, k2, g3, k3, rfl, HL4, HI4, by omega, by omega⟩, ?_⟩
  repeat (first | (with_reducible exact Below.refl _ _) | (with_reducible refine Below.setCell ?_ ?_ _) | (with_reducible refine Below.drew ?_) | (with_reducible refine Below.alloc ?_ ?_ _) | (with_reducible refine Below.trans ?_ (Below.mono bw3 ?_)) | (with_reducible refine Below.trans ?_ (Below.mono hb3 ?_)) | (with_reducible exact bw3.size) | (with_reducible exact hb3.size) | omega | (simp <;> omega) | (simp <;> (have s := bw3.size; omega)) | (simp <;> (have s := hb3.size; omega)) | (have s0 := bw3.size; (try simp at s0); have s1 := hb3.size; (try simp at s1); (try simp); omega))
end Go.Proofs.YtilbhcjnkmeecaaGreat

/- The document's Push, Drift, Step, Run and Period.
Conditions: those written at each theorem. -/
namespace Go.Proofs.YtilbhcjnkmeecaaGreat
set_option linter.unusedVariables false
set_option linter.unusedSimpArgs false
set_option maxRecDepth 1000000
open Go.RowKit
open Um Tm Cm Km

/-- momenta and no error -/
def RetKE (m n : Nat) (l : List Int) (e : Ending) (w' : World) : Prop := ∃ g k : Nat, e = .returned (.tuple #[.slice (some ⟨g, 0, none⟩) n k, .int .i64 0]) ∧ LiesI w' g 0 l ∧ m ≤ g
/-- a field and no error -/
def RetFE (a b c : Int) (m n : Nat) (L : List Q) (e : Ending) (w' : World) : Prop := ∃ g k : Nat, e = .returned (.tuple #[.agg #[.int .i64 a, .int .i64 b, .int .i64 c, .slice (some ⟨g, 0, none⟩) n k], .int .i64 0]) ∧ Lies w' g 0 L ∧ m ≤ g
/-- a field, momenta and no error -/
def RetSE (a b c : Int) (m n : Nat) (s : List Q × List Int) (e : Ending) (w' : World) : Prop := ∃ g k gm km : Nat, e = .returned (.tuple #[.agg #[.int .i64 a, .int .i64 b, .int .i64 c, .slice (some ⟨g, 0, none⟩) n k], .slice (some ⟨gm, 0, none⟩) n km, .int .i64 0]) ∧ Lies w' g 0 s.1 ∧ LiesI w' gm 0 s.2 ∧ m ≤ g ∧ m ≤ gm
/-! ### Run, without an error -/
set_option maxHeartbeats 12800000 in
theorem refRunO_ok (a b c : Int) (bl off cap pb po pc n x : Nat) (L : List Q) (l : List Int) (w : World) (h : Lies w bl off L) (hp : LiesI w pb po l) (hst : St a b c n L l) (hn0 : 0 < n) (h48 : n ≤ 48) (hx : x ≤ 100) : Calls Tryz.prog 21 #[.agg #[.int .i64 a, .int .i64 b, .int .i64 c, .slice (some ⟨bl, off, none⟩) n cap], .slice (some ⟨pb, po, none⟩) n pc, .int .i64 x] w fun e w' => RetSE a b c w.heap.size n (rn a b c (L, l) x) e w' ∧ Below w.heap.size w w' := by
  obtain ⟨i0, hi, hz0, hz1, hz2⟩ := info_parts infoK
  have H := Lib.hid h
  have HP := Lib.hid hp
  have HM := Lib.hid hst.m
  obtain ⟨hr, hv⟩ := St_nums hst
  have cV : ∀ W : World, Lies W bl off L → LiesI W pb po l → Calls Tryz.prog 31 #[.agg #[.int .i64 a, .int .i64 b, .int .i64 c, .slice (some ⟨bl, off, none⟩) n cap], .slice (some ⟨pb, po, none⟩) n pc] W fun e w' => e = .returned (.int .i64 0) ∧ Below W.heap.size W w' := fun W h1 h2 => by
    have := refValidateK_any a b c 0 0 (some ⟨bl, off, none⟩) (some ⟨pb, po, none⟩) cap pc n L _ l W (.inr ⟨bl, off, rfl, h1⟩) (.inr ⟨pb, po, rfl, h2⟩) hst.m hr hv (by rw [hst.e]; omega)
    rwa [hst.e] at this
  have cW := fun W : World => within6_any (x : Int) 0 100 W true (.inl ⟨by omega, by omega, rfl⟩)
  have cC : ∀ W : World, Lies W bl off L → Calls Tryz.prog 10 #[.agg #[.int .i64 a, .int .i64 b, .int .i64 c, .slice (some ⟨bl, off, none⟩) n cap]] W fun e w' => (∃ g k : Nat, e = .returned (.agg #[.int .i64 a, .int .i64 b, .int .i64 c, .slice (some ⟨g, 0, none⟩) n k]) ∧ LBox w' g L ∧ W.heap.size ≤ g) ∧ Below W.heap.size W w' := fun W h => by
    have := refCopy_some a b c bl off cap L W h (by rw [hst.e]; exact hn0) (by rw [hst.e]; omega)
    rw [hst.e] at this
    exact this.mono fun e w' ⟨g, k, h1, h2, h3, h4⟩ => ⟨⟨g, k, h1, h2, h3⟩, h4⟩
  have HST := Lib.hid (fun k => hst.rn k)
  have HS := Lib.hid (fun (W : World) (k g gk gm km : Nat) (h1 : Lies W g 0 (rn a b c (L, l) k).1) (h2 : LiesI W gm 0 (rn a b c (L, l) k).2) => refStep_any a b c g 0 gk gm 0 km n _ _ W h1 h2 (hst.rn k) hn0 h48)
  clear h hp hst hr hv
  go_enter Tryz.func21, Tryz.ntmps21
  go_wp2_with (fail)
  refine (cV _ (H.out.later ba2) (HP.out.later ba2)).mono ?_
  clear cV
  rintro e w1 ⟨rfl, hw1⟩
  have TF1 := Lib.hid (FW.n2a.later hw1)
  have TR1 := Lib.hid (FW.n2b.later hw1)
  have HB1 := Lib.hid (bel2 hw1)
  clear hw1
  obtain ⟨f0, f1, f2, f3, ff, fl⟩ := TF1.out
  go_wp2_with (fail)
  refine (cW _).mono ?_
  clear cW
  rintro e w9 ⟨rfl, rfl⟩
  go_wp2_with (fail)
  refine (cC _ (H.out.later HB1.out)).mono ?_
  clear cC f0 f1 f2 f3 ff fl
  rintro e w2 ⟨⟨g1, k1, rfl, hb1, hg1⟩, hw2⟩
  have TR2 := Lib.hid (TR1.out.later hw2)
  have HB2 := Lib.hid (HB1.out.trans (hw2.mono HB1.out.size))
  have HL2 := Lib.hid hb1.h
  have q1 : w.heap.size + 1 < g1 := by have := TR1.out.lt; omega
  have q2 : w.heap.size + 1 < w2.heap.size := TR2.out.lt
  clear hw2 TR1 HB1 TF1 hb1 hg1
  have hb2 := HB2.out
  go_wp2_with (at_builtin; refine wpList_append_own _ rfl (.tmp 26) (.tmp 27) 26 rfl w2.heap.size 38 i0 _ 3 24 Tryz.underlying26 hi hz0 hz1 hz2 rfl (by decide) (.slice (some ⟨w2.heap.size, 0, none⟩) 0 0) 0 [] rfl (World.ownsRow_lit w2 #[] 0 (Nat.le_refl _) (by unfold maxLen; omega) (by simp)) ⟨pb, po, none⟩ n pc (l.map vi) rfl (by rw [List.length_map]; exact HM.out) (liesI_news (HP.out.later (by repeat (first | (with_reducible exact Below.refl _ _) | (with_reducible refine Below.setCell ?_ ?_ _) | (with_reducible refine Below.drew ?_) | (with_reducible refine Below.alloc ?_ ?_ _) | (with_reducible refine Below.trans ?_ (Below.mono hb2 ?_)) | (with_reducible exact hb2.size) | omega | (simp <;> omega) | (simp <;> (have s := hb2.size; omega)) | (have s0 := hb2.size; (try simp at s0); (try simp); omega))))) (liesI_ones l) (by unfold maxLen; omega) (by omega) (by simp) ?_; intro v' w3 hown hgrow _)
  rw [Nat.zero_add, List.nil_append] at hown
  obtain ⟨g2, k2, rfl, hgb, hi3⟩ := owned_liesK hown hn0 HM.out
  have Gw : Below w2.heap.size w2 w3 := ((Below.refl w2.heap.size w2).alloc (Nat.le_refl _) (.cells #[] 38)).grown hgrow (by simp) (fun j hj => by simp [Value.ownBlock] at hj; omega)
  have TR3 := Lib.hid ((TR2.out.later Gw).later (ba1 (o := .cells #[.int .i64 a, .int .i64 b, .int .i64 c, .slice (some ⟨g1, 0, none⟩) n k1] 25)))
  have TG3 : Hid (FW (w3.alloc (.cells #[.int .i64 a, .int .i64 b, .int .i64 c, .slice (some ⟨g1, 0, none⟩) n k1] 25)) w3.heap.size a b c (.slice (some ⟨g1, 0, none⟩) n k1)) := Lib.hid FW.n1
  have HL3 := Lib.hid ((HL2.out.later Gw).later (ba1 (o := .cells #[.int .i64 a, .int .i64 b, .int .i64 c, .slice (some ⟨g1, 0, none⟩) n k1] 25)))
  have HI3 := Lib.hid (hi3.later (ba1 (o := .cells #[.int .i64 a, .int .i64 b, .int .i64 c, .slice (some ⟨g1, 0, none⟩) n k1] 25)))
  have HB3 := Lib.hid ((HB2.out.trans (Gw.mono HB2.out.size)).trans ((ba1 (o := .cells #[.int .i64 a, .int .i64 b, .int .i64 c, .slice (some ⟨g1, 0, none⟩) n k1] 25)).mono (by have := Gw.size; omega)))
  have q3 : w.heap.size + 1 < g2 := by omega
  have q4 : w.heap.size + 1 < w3.heap.size := by have := Gw.size; omega
  have q5 : g1 < w3.heap.size := by have := HL2.out; have h0 := World.block_lt_of_cell? _ _ ((HL2.out.later Gw) 0 _ (List.getElem?_eq_getElem (show 0 < L.length by have := (HST.out 0).e; simp only [rn] at this; omega))).1; simpa using h0
  have q6 : g2 < w3.heap.size := by have h0 := World.block_lt_of_cell? _ _ (hi3 0 _ (List.getElem?_eq_getElem (show 0 < l.length by have := HM.out; omega))); simpa using h0
  clear hown hgrow hgb hi3 Gw TR2 HL2 HB2 hb2
  go_wp2
  generalize w3.alloc (.cells #[.int .i64 a, .int .i64 b, .int .i64 c, .slice (some ⟨g1, 0, none⟩) n k1] 25) = W0 at *
  generalize hto : w3.heap.size = to at *
  clear hto
  go_loopw [11, 12] (fun p q wr => ∃ k g gk gm km : Nat, k ≤ x ∧ q = .int .i64 k ∧ p = .slice (some ⟨gm, 0, none⟩) n km ∧ w.heap.size + 1 < g ∧ w.heap.size + 1 < gm ∧ Hid (FW wr to a b c (.slice (some ⟨g, 0, none⟩) n gk)) ∧ Hid (FW wr (w.heap.size + 1) 0 0 0 (.slice none 0 0)) ∧ Hid (Lies wr g 0 (rn a b c (L, l) k).1) ∧ Hid (LiesI wr gm 0 (rn a b c (L, l) k).2) ∧ Hid (Below w.heap.size w wr) ∧ g ≠ to ∧ gm ≠ to) (fun _ q _ => x - (intOf q).toNat)
  case atStart => exact ⟨0, g1, k1, g2, k2, by omega, rfl, rfl, q1, q3, TG3, TR3, HL3, HI3, HB3, by omega, by omega⟩
  case round =>
    obtain ⟨k, g, gk, gm, km, hk, rfl, rfl, r1, r2, hTG, hTR, hHL, hHI, hb, n1, n2⟩ := hrel
    clear TG3 TR3 HL3 HI3 HB3
    by_cases hlt : k < x
    · have i1 : (k : Int) < (x : Int) := by omega
      obtain ⟨f0, f1, f2, f3, ff, fl⟩ := hTG.out
      go_wp2_with (fail)
      refine (HS.out _ k g gk gm km hHL.out hHI.out).mono ?_
      clear f0 f1 f2 f3 ff
      rintro e w4 ⟨⟨g4, k4, m4, j4, rfl, hl4, hi4, hg4, hm4⟩, hw4⟩
      have e4 : rn a b c (L, l) (k + 1) = stp a b c ((rn a b c (L, l) k).1, (rn a b c (L, l) k).2) := rfl
      rw [← e4] at hl4 hi4
      clear e4
      have TG4 := Lib.hid (hTG.out.later hw4)
      obtain ⟨f0, f1, f2, f3, ff, fl4⟩ := TG4.out
      have TG5 := Lib.hid (TG4.out.set4 a b c (.slice (some ⟨g4, 0, none⟩) n k4))
      have Gs : w4.grownBy _ (some to) := grown4 (w := w4) to (.int .i64 a) (.int .i64 b) (.int .i64 c) (.slice (some ⟨g4, 0, none⟩) n k4)
      have TR5 := Lib.hid ((hTR.out.later hw4).grown Gs (by simp; omega))
      have HL5 := Lib.hid (lies_grown hl4 Gs (by simp; omega))
      have HI5 := Lib.hid (LiesI.grown hi4 Gs (by simp; omega))
      have b4 := hb.out.trans (hw4.mono hb.out.size)
      have HB5 := Lib.hid (b4.grown Gs b4.size (fun j hj => by simp at hj; omega))
      have s1 := hTR.out.lt
      clear hl4 hi4 hw4 Gs TG4 b4 hTG hTR hHL hHI hb
      go_wp2
      exact ⟨⟨k + 1, g4, k4, m4, j4, by omega, by go_num, rfl, by omega, by omega, TG5, TR5, HL5, HI5, HB5, by omega, by omega⟩, by simp [intOf]; omega⟩
    · obtain rfl : k = x := by omega
      obtain ⟨f0, f1, f2, f3, ff, fl⟩ := hTG.out
      obtain ⟨t0, t1, t2, t3, tf, tl⟩ := hTR.out
      have hb2 := hb.out
      have Gs := grown_setCells (w.heap.size + 1) [.int .i64 a, .int .i64 b, .int .i64 c, .slice (some ⟨g, 0, none⟩) n gk] 0 wr
      go_wp2
      refine bodyPost_ret (v := .tuple #[.agg #[.int .i64 a, .int .i64 b, .int .i64 c, .slice (some ⟨g, 0, none⟩) n gk], .slice (some ⟨gm, 0, none⟩) n km, .int .i64 0]) (by simp [results, Tryz.results21, go_sem, f0, f1, f2, f3, t0, t1, t2, t3, tl]) rfl ⟨⟨g, gk, gm, km, rfl, lies_grown hHL.out Gs (by simp; omega), LiesI.grown hHI.out Gs (by simp; omega), by omega, by omega⟩, ?_⟩
      repeat (first | (with_reducible exact Below.refl _ _) | (with_reducible refine Below.setCell ?_ ?_ _) | (with_reducible refine Below.drew ?_) | (with_reducible refine Below.alloc ?_ ?_ _) | (with_reducible refine Below.trans ?_ (Below.mono hb2 ?_)) | (with_reducible exact hb2.size) | omega | (simp <;> omega) | (simp <;> (have s := hb2.size; omega)) | (have s0 := hb2.size; (try simp at s0); (try simp); omega))
end Go.Proofs.YtilbhcjnkmeecaaGreat

/- The document's Period.
Conditions: those written at each theorem. -/
namespace Go.Proofs.YtilbhcjnkmeecaaGreat
set_option linter.unusedVariables false
set_option linter.unusedSimpArgs false
set_option maxRecDepth 1000000
open Go.RowKit
open Um Tm Cm Km

end Go.Proofs.YtilbhcjnkmeecaaGreat
