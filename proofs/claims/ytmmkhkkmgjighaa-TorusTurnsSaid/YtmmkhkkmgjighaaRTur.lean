/- A field that is turned, as the document's answers make it.
Conditions: those written at each theorem. -/
import Derived.Test.YtmmkhkkmgjighaaMovS
namespace Go.Proofs.Ytmmkhkkmgjighaa
set_option linter.unusedVariables false
set_option linter.unusedSimpArgs false
set_option maxRecDepth 1000000
open Go.RowKit
open Um Tm

/-- what lies between two links that are appended -/
structure RT (w : World) (p : Nat) (F : Value) (a b c : Int) (T : List Q) (W : World) (v : Value) (m : Nat) : Prop where
  own : W.ownsRow (p + 1) 32 5 v m ((T.take m).flatMap uc)
  s : FW W p b c a v
  f : FW W w.heap.size a b c F
  r : FW W (w.heap.size + 1) 0 0 0 (.slice none 0 0)
  b : Below w.heap.size w W
theorem RT.later {w : World} {p : Nat} {F : Value} {a b c : Int} {T : List Q} {W X : World} {v : Value} {m : Nat} (h : RT w p F a b c T W v m) (hb : Below W.heap.size W X) : RT w p F a b c T X v m :=
  ⟨owned_later h.own hb, h.s.later hb, h.f.later hb, h.r.later hb, h.b.trans (hb.mono h.b.size)⟩
theorem RT.app {w : World} {p : Nat} {F : Value} {a b c : Int} {T : List Q} {W X Y : World} {v v' : Value} {m : Nat} {y : Q} (h : RT w p F a b c T W v m) (hp : w.heap.size + 1 < p) (hb : Below W.heap.size W X) (hg : X.grownBy Y v.ownBlock) (ho : Y.ownsRow (p + 1) 32 5 v' (m + 1) ((T.take m).flatMap uc ++ uc y)) (hy : T[m]? = some y) : RT w p F a b c T (Y.setCell ⟨p, 3, none⟩ v') v' (m + 1) := by
  have hX := h.later hb
  have hfr := owned_from hX.own
  have k5 := grown_setCell Y ⟨p, 3, none⟩ v'
  have hm := (List.getElem?_eq_some_iff.1 hy).1
  have e : (T.take (m + 1)).flatMap uc = (T.take m).flatMap uc ++ uc y := by
    rw [List.take_succ_eq_append_getElem hm, List.flatMap_append, (List.getElem?_eq_some_iff.1 hy).2]
    simp
  refine ⟨?_, (hX.s.grown hg (owned_ne hX.own (by omega))).set3 v', (hX.f.grown hg (owned_ne hX.own (by omega))).grown k5 (by simp; omega), (hX.r.grown hg (owned_ne hX.own (by omega))).grown k5 (by simp; omega), (hX.b.grown hg hX.b.size (fun j hj => by have := hfr j hj; omega)).setCell (p := ⟨p, 3, none⟩) (by show w.heap.size ≤ p; omega) v'⟩
  rw [e]
  exact ho.kept k5 (.inr (fun e => by have := owned_from ho p e; omega))

set_option maxHeartbeats 12800000 in
theorem refTurn_ok (a b c : Int) (bl off cap N : Nat) (L : List Q) (w : World) (hl : Lies w bl off L) (hF : Fl a b c L) (hN : (N : Int) = a * b * c) :
    Calls Try.prog 23 #[.agg #[.int .i64 a, .int .i64 b, .int .i64 c, .slice (some ⟨bl, off, none⟩) L.length cap]] w fun e w' => ∃ g k : Nat, e = .returned (.tuple #[.agg #[.int .i64 b, .int .i64 c, .int .i64 a, .slice (some ⟨g, 0, none⟩) L.length k], .int .i64 0]) ∧ Lies w' g 0 (turnL a b c L) ∧ Below w.heap.size w w' := by
  have hz := hF.z
  have hp16 := hz.p
  have hn := hF.n
  obtain ⟨-, -, p3, -⟩ := mul_rng hz.a1 hz.a4 hz.b1 hz.b4 hz.c1 hz.c4
  have hpos : 0 < L.length := by omega
  have cV := fun (W : World) (h : Lies W bl off L) => refValidateF_any a b c 0 (some ⟨bl, off, none⟩) cap L W (.inr ⟨bl, off, rfl, h⟩) (Fl_fldR hF) (by omega)
  have cS := fun W : World => refSize_any a b c W hz.a1 hz.a4 hz.b1 hz.b4 hz.c1 hz.c4
  rw [← hN] at cS
  obtain ⟨i0, hi, hz0, hz1, hz2⟩ := info_parts infoU
  have hTL := turnL_len a b c L
  have HT := Lib.hid (fun (i : Nat) (h : i < L.length) => turnL_get a b c L i h)
  obtain ⟨T, hT⟩ : ∃ T, T = turnL a b c L := ⟨_, rfl⟩
  rw [← hT] at hTL HT ⊢
  have HTL := Lib.hid hTL
  clear hT hTL
  have H := Lib.hid hl
  have HF := Lib.hid hF
  have HN := Lib.hid hN
  have HLN := Lib.hid hn
  clear hl hF hz hN hn p3 hp16
  go_enter Try.func23, Try.ntmps23
  go_wp2_with ((with_reducible refine (cV _ (H.out.later (by repeat (first | (with_reducible exact Below.refl _ _) | (with_reducible refine Below.setCell ?_ ?_ _) | (with_reducible refine Below.drew ?_) | (with_reducible refine Below.alloc ?_ ?_ _) | omega | (simp <;> omega))))).mono ?_); clear cV; rintro e w1 ⟨rfl, hw1⟩; have hc1 := Tail.cells hw1; have zw10 := Nat.lt_of_lt_of_le (n := w.heap.size) (by simp <;> omega) hw1.size; have zw11 := Nat.lt_of_lt_of_le (n := w.heap.size + 1) (by simp <;> omega) hw1.size)
  have R0 : RT w w1.heap.size (.slice (some ⟨bl, off, none⟩) L.length cap) a b c T (w1.alloc (.cells #[.int .i64 b, .int .i64 c, .int .i64 a, .slice none 0 0] 25)) (.slice none 0 0) 0 :=
    ⟨World.ownsRow_nil _ _ _ _, ⟨by simp [go_sem], by simp [go_sem], by simp [go_sem], by simp [go_sem], fun j => by simp [go_sem], by simp⟩,
      ((⟨by simp [go_sem], by simp [go_sem], by simp [go_sem], by simp [go_sem], fun j => by simp [go_sem], by simp <;> omega⟩ : FW ((w.alloc (.cells #[.int .i64 a, .int .i64 b, .int .i64 c, .slice (some ⟨bl, off, none⟩) L.length cap] 25)).alloc (.cells #[.int .i64 0, .int .i64 0, .int .i64 0, .slice none 0 0] 25)) w.heap.size a b c (.slice (some ⟨bl, off, none⟩) L.length cap)).later hw1).later ((Below.refl _ _).alloc (Nat.le_refl _) _),
      ((⟨by simp [go_sem], by simp [go_sem], by simp [go_sem], by simp [go_sem], fun j => by simp [go_sem], by simp⟩ : FW ((w.alloc (.cells #[.int .i64 a, .int .i64 b, .int .i64 c, .slice (some ⟨bl, off, none⟩) L.length cap] 25)).alloc (.cells #[.int .i64 0, .int .i64 0, .int .i64 0, .slice none 0 0] 25)) (w.heap.size + 1) 0 0 0 (.slice none 0 0)).later hw1).later ((Below.refl _ _).alloc (Nat.le_refl _) _), by repeat (first | (with_reducible exact Below.refl _ _) | (with_reducible refine Below.setCell ?_ ?_ _) | (with_reducible refine Below.drew ?_) | (with_reducible refine Below.alloc ?_ ?_ _) | (with_reducible refine Below.trans ?_ (Below.mono hw1 ?_)) | (with_reducible exact hw1.size) | omega | (simp <;> omega) | (simp <;> (have s := hw1.size; omega)) | (have s0 := hw1.size; (try simp at s0); (try simp); omega))⟩
  have hpw : w.heap.size + 1 < w1.heap.size := by omega
  clear hw1 hc1 zw10 zw11
  generalize w1.heap.size = p at *
  go_loopw [6] (fun q wr => ∃ (k : Nat) (v : Value), k ≤ N ∧ q = .int .i64 k ∧ Hid (RT w p (.slice (some ⟨bl, off, none⟩) L.length cap) a b c T wr v (3 * k))) (fun q _ => N - (intOf q).toNat)
  case atStart => exact ⟨0, _, by omega, rfl, Lib.hid R0⟩
  case round =>
    obtain ⟨k, v0, hk, rfl, HR⟩ := hrel
    clear R0
    have hz := HF.out.z
    have hp16 := hz.p
    have hn := HLN.out
    have hN := HN.out
    by_cases hlt : k < N
    · have s0 : 0 ≤ (k : Int) := by omega
      have s1 : (k : Int) < a * b * c := by omega
      have i1 : (k : Int) < (N : Int) := by omega
      have hvol := turn_vol a b c
      obtain ⟨-, s16, -, -, e0, e1, m0, m4, k0, k4⟩ := div_rng hz.turn s0 (by rw [hvol]; exact s1)
      have cP := fun W : World => refSpot_any b c a (k : Int) W hz.turn s0 (by rw [hvol]; exact s1)
      have cA := fun W : World => refAt_any a b c ((k : Int) / b / c) ((k : Int) % b) ((k : Int) / b % c) W hz
      have eS : site a b c ((k : Int) / b / c) ((k : Int) % b) ((k : Int) / b % c) = tn a b c (k : Int) := rfl
      rw [eS] at cA
      have hsr := tn_rng hz (k : Int)
      have hq16 : tn a b c (k : Int) < 16 := by omega
      have g0 := HT.out (3 * k) (by omega)
      have g1 := HT.out (3 * k + 1) (by omega)
      have g2 := HT.out (3 * k + 1 + 1) (by omega)
      rw [show (((3 * k : Nat) : Int)) / 3 = k by omega, show (((3 * k : Nat) : Int) % 3 + 1) % 3 = 1 by omega] at g0
      rw [show (((3 * k + 1 : Nat) : Int)) / 3 = k by omega, show (((3 * k + 1 : Nat) : Int) % 3 + 1) % 3 = 2 by omega] at g1
      rw [show (((3 * k + 1 + 1 : Nat) : Int)) / 3 = k by omega, show (((3 * k + 1 + 1 : Nat) : Int) % 3 + 1) % 3 = 0 by omega, Int.add_zero] at g2
      have o0 : 3 * tn a b c (k : Int) < (L.length : Int) := by omega
      have o1 : 3 * tn a b c (k : Int) + 1 < (L.length : Int) := by omega
      have o2 : 3 * tn a b c (k : Int) + 2 < (L.length : Int) := by omega
      have HZ0 := Lib.hid (lk_get (L := L) (i := 3 * tn a b c (k : Int) + 1) (by omega) o1)
      have HZ1 := Lib.hid (lk_get (L := L) (i := 3 * tn a b c (k : Int) + 2) (by omega) o2)
      have HZ2 := Lib.hid (lk_get (L := L) (i := 3 * tn a b c (k : Int)) (by omega) o0)
      have HY0 := Lib.hid g0
      have HY1 := Lib.hid g1
      have HY2 := Lib.hid g2
      have HK1 : Hid (((k + 1 : Nat) : Int) = (k : Int) + 1) := Lib.hid (by omega)
      have hk16 : k < 16 := by omega
      generalize lk L (3 * tn a b c (k : Int) + 1) = z0 at *
      generalize lk L (3 * tn a b c (k : Int) + 2) = z1 at *
      generalize lk L (3 * tn a b c (k : Int)) = z2 at *
      generalize tn a b c (k : Int) = fi at *
      generalize (k : Int) % b = pa at *
      generalize (k : Int) / b % c = pb at *
      generalize (k : Int) / b / c = pc at *
      generalize hki : (k : Int) = ki at *
      have HKI := Lib.hid hki
      have hq0 : 0 ≤ fi := hsr.1
      have hq1 : 0 ≤ 3 * fi := by omega
      have hq2 : 0 ≤ 3 * fi + 1 := by omega
      have hq3 : 0 ≤ 3 * fi + 2 := by omega
      clear hki g0 g1 g2 hsr eS hvol hz hp16 hn hN s1 hk16
      obtain ⟨f0, f1, f2, f3, ff, fl⟩ := HR.out.f
      obtain ⟨d0, d1, d2, d3, df, dl⟩ := HR.out.s
      go_wp2_with (first
        | ((with_reducible refine (cS _).mono ?_); rintro e w3 ⟨rfl, hw3⟩; have hc3 := Tail.cells hw3; have z3 := hw3.size; have zf3 := Nat.lt_of_lt_of_le fl z3; have zd3 := Nat.lt_of_lt_of_le dl z3)
        | ((with_reducible refine (cP _).mono ?_); clear cP; rintro e w5 ⟨rfl, hw5⟩; have hc5 := Tail.cells hw5; have z5 := hw5.size; have zf5 := Nat.lt_of_lt_of_le zf3 z5; have zd5 := Nat.lt_of_lt_of_le zd3 z5)
        | ((with_reducible refine (cA _).mono ?_); clear cA; rintro e X0 ⟨rfl, hw6⟩))
      have HR0 := Lib.hid (HR.out.later (show Below wr.heap.size wr X0 by repeat (first | (with_reducible exact Below.refl _ _) | (with_reducible refine Below.setCell ?_ ?_ _) | (with_reducible refine Below.drew ?_) | (with_reducible refine Below.alloc ?_ ?_ _) | (with_reducible refine Below.trans ?_ (Below.mono hw6 ?_)) | (with_reducible refine Below.trans ?_ (Below.mono hw5 ?_)) | (with_reducible refine Below.trans ?_ (Below.mono hw3 ?_)) | (with_reducible exact hw6.size) | (with_reducible exact hw5.size) | (with_reducible exact hw3.size) | omega | (simp <;> omega) | (simp <;> (have s := hw6.size; omega)) | (simp <;> (have s := hw5.size; omega)) | (simp <;> (have s := hw3.size; omega)) | (have s0 := hw6.size; (try simp at s0); have s1 := hw5.size; (try simp at s1); have s2 := hw3.size; (try simp at s2); (try simp); omega))))
      have hk16 : k < 16 := by have := HKI.out; omega
      clear f0 f1 f2 f3 ff fl d0 d1 d2 d3 df dl hc3 hc5 hw3 hw5 hw6 HR z3 z5 zf3 zd3 zf5 zd5
      refine wp_loop_rounds 4 ?_
      obtain ⟨f0, f1, f2, f3, ff, fl⟩ := HR0.out.f
      obtain ⟨d0, d1, d2, d3, df, dl⟩ := HR0.out.s
      obtain ⟨l0, l1, l2, l3, l4⟩ := (H.out.later HR0.out.b) _ _ HZ0.out
      have lb : bl < X0.heap.size := World.block_lt_of_cell? _ _ l0
      rw [rounds_succ]
      go_wp2
      apply Made.region_one 12 (.cells (uc z0).toArray 32) (fun g => .slice (some ⟨g, 0, none⟩) 1 1) (some 63) (by kernel_rfl) (by kernel_rfl) (by kernel_rfl)
      · intro B hB
        have kc := @Tail.cell_re
        have hcB := Tail.cells hB
        have zB0 := Nat.lt_of_lt_of_le fl hB.size
        have zB1 := Nat.lt_of_lt_of_le dl hB.size
        have zB2 := Nat.lt_of_lt_of_le lb hB.size
        simp only [List.take_succ_cons, List.take_zero]
        repeat (go_big_quiet_step (fail))
        exact wpQuiet_nil rfl
      · refine ⟨_, rfl, rfl, fun W => ⟨rfl, ?_⟩⟩
        simp [execOp, go_sem, uc]
      intro g4 w4 hg4 hw4 hx4
      show wpList _ _ _ (List.drop 13 _) _ _
      simp only [List.drop_succ_cons, List.drop_zero]
      have x0 := Wide.cell_at hx4 0 _ rfl
      have x1 := Wide.cell_at hx4 1 _ rfl
      have x2 := Wide.cell_at hx4 2 _ rfl
      have x3 := Wide.cell_at hx4 3 _ rfl
      have x4 := Wide.cell_at hx4 4 _ rfl
      have OO := Lib.hid (owned_later HR0.out.own hw4)
      have hs4 := hw4.size
      have hm48 : 3 * k + 1 ≤ 1000 := by omega
      have FF4 := Lib.hid (HR0.out.s.later hw4)
      have hpX := HR0.out.s.lt
      clear f0 f1 f2 f3 ff fl d0 d1 d2 d3 df dl l0 l1 l2 l3 l4 lb hx4
      obtain ⟨CS, hCS⟩ : ∃ CS, CS = (T.take (3 * k)).flatMap uc := ⟨_, rfl⟩
      rw [← hCS] at OO
      have HCS := Lib.hid hCS
      clear hCS
      go_wp2_with (at_builtin; refine wpList_append_own _ rfl (.tmp 52) (.tmp 63) 23 rfl (p + 1) 32 i0 _ 5 40 Try.underlying23 hi hz0 hz1 hz2 rfl (by decide) v0 (3 * k) CS rfl OO.out ⟨g4, 0, none⟩ 1 1 (uc z0) rfl rfl (five_cells rfl x0 x1 x2 x3 x4) (five_one rfl) (by unfold maxLen; omega) (by omega) (by omega) ?_; intro v5 w5 hown5 hgrow5 _; obtain ⟨g5, c5, rfl, hg5⟩ := owned5_some hown5 (by omega); obtain ⟨d0, d1, d2, d3, df, dl⟩ := FF4.out.grown hgrow5 (owned_ne OO.out (by omega)))
      rw [HCS.out] at hown5
      have HR1 := Lib.hid (HR0.out.app hpw hw4 hgrow5 hown5 HY0.out)
      clear hpX hown5 hgrow5 d0 d1 d2 d3 df dl OO FF4 HCS x0 x1 x2 x3 x4 hs4 hw4
      generalize w5.setCell ⟨p, 3, none⟩ (.slice (some ⟨g5, 0, none⟩) (3 * k + 1) c5) = X1 at *
      generalize (Value.slice (some ⟨g5, 0, none⟩) (3 * k + 1) c5) = v1 at *
      obtain ⟨f0, f1, f2, f3, ff, fl⟩ := HR1.out.f
      obtain ⟨d0, d1, d2, d3, df, dl⟩ := HR1.out.s
      obtain ⟨l0, l1, l2, l3, l4⟩ := (H.out.later HR1.out.b) _ _ HZ1.out
      have lb : bl < X1.heap.size := World.block_lt_of_cell? _ _ l0
      rw [rounds_succ]
      go_wp2
      apply Made.region_one 12 (.cells (uc z1).toArray 32) (fun g => .slice (some ⟨g, 0, none⟩) 1 1) (some 63) (by kernel_rfl) (by kernel_rfl) (by kernel_rfl)
      · intro B hB
        have kc := @Tail.cell_re
        have hcB := Tail.cells hB
        have zB0 := Nat.lt_of_lt_of_le fl hB.size
        have zB1 := Nat.lt_of_lt_of_le dl hB.size
        have zB2 := Nat.lt_of_lt_of_le lb hB.size
        simp only [List.take_succ_cons, List.take_zero]
        repeat (go_big_quiet_step (fail))
        exact wpQuiet_nil rfl
      · refine ⟨_, rfl, rfl, fun W => ⟨rfl, ?_⟩⟩
        simp [execOp, go_sem, uc]
      intro g4 w4 hg4 hw4 hx4
      show wpList _ _ _ (List.drop 13 _) _ _
      simp only [List.drop_succ_cons, List.drop_zero]
      have x0 := Wide.cell_at hx4 0 _ rfl
      have x1 := Wide.cell_at hx4 1 _ rfl
      have x2 := Wide.cell_at hx4 2 _ rfl
      have x3 := Wide.cell_at hx4 3 _ rfl
      have x4 := Wide.cell_at hx4 4 _ rfl
      have OO := Lib.hid (owned_later HR1.out.own hw4)
      have hs4 := hw4.size
      have hm48 : 3 * k + 1 + 1 ≤ 1000 := by omega
      have FF4 := Lib.hid (HR1.out.s.later hw4)
      have hpX := HR1.out.s.lt
      clear f0 f1 f2 f3 ff fl d0 d1 d2 d3 df dl l0 l1 l2 l3 l4 lb hx4
      obtain ⟨CS, hCS⟩ : ∃ CS, CS = (T.take (3 * k + 1)).flatMap uc := ⟨_, rfl⟩
      rw [← hCS] at OO
      have HCS := Lib.hid hCS
      clear hCS
      go_wp2_with (at_builtin; refine wpList_append_own _ rfl (.tmp 52) (.tmp 63) 23 rfl (p + 1) 32 i0 _ 5 40 Try.underlying23 hi hz0 hz1 hz2 rfl (by decide) v1 (3 * k + 1) CS rfl OO.out ⟨g4, 0, none⟩ 1 1 (uc z1) rfl rfl (five_cells rfl x0 x1 x2 x3 x4) (five_one rfl) (by unfold maxLen; omega) (by omega) (by omega) ?_; intro v5 w5 hown5 hgrow5 _; obtain ⟨g5, c5, rfl, hg5⟩ := owned5_some hown5 (by omega); obtain ⟨d0, d1, d2, d3, df, dl⟩ := FF4.out.grown hgrow5 (owned_ne OO.out (by omega)))
      rw [HCS.out] at hown5
      have HR2 := Lib.hid (HR1.out.app hpw hw4 hgrow5 hown5 HY1.out)
      clear hpX hown5 hgrow5 d0 d1 d2 d3 df dl OO FF4 HCS x0 x1 x2 x3 x4 hs4 hw4
      generalize w5.setCell ⟨p, 3, none⟩ (.slice (some ⟨g5, 0, none⟩) (3 * k + 1 + 1) c5) = X2 at *
      generalize (Value.slice (some ⟨g5, 0, none⟩) (3 * k + 1 + 1) c5) = v2 at *
      obtain ⟨f0, f1, f2, f3, ff, fl⟩ := HR2.out.f
      obtain ⟨d0, d1, d2, d3, df, dl⟩ := HR2.out.s
      obtain ⟨l0, l1, l2, l3, l4⟩ := (H.out.later HR2.out.b) _ _ HZ2.out
      have lb : bl < X2.heap.size := World.block_lt_of_cell? _ _ l0
      rw [rounds_succ]
      go_wp2
      apply Made.region_one 12 (.cells (uc z2).toArray 32) (fun g => .slice (some ⟨g, 0, none⟩) 1 1) (some 63) (by kernel_rfl) (by kernel_rfl) (by kernel_rfl)
      · intro B hB
        have kc := @Tail.cell_re
        have hcB := Tail.cells hB
        have zB0 := Nat.lt_of_lt_of_le fl hB.size
        have zB1 := Nat.lt_of_lt_of_le dl hB.size
        have zB2 := Nat.lt_of_lt_of_le lb hB.size
        simp only [List.take_succ_cons, List.take_zero]
        repeat (go_big_quiet_step (fail))
        exact wpQuiet_nil rfl
      · refine ⟨_, rfl, rfl, fun W => ⟨rfl, ?_⟩⟩
        simp [execOp, go_sem, uc]
      intro g4 w4 hg4 hw4 hx4
      show wpList _ _ _ (List.drop 13 _) _ _
      simp only [List.drop_succ_cons, List.drop_zero]
      have x0 := Wide.cell_at hx4 0 _ rfl
      have x1 := Wide.cell_at hx4 1 _ rfl
      have x2 := Wide.cell_at hx4 2 _ rfl
      have x3 := Wide.cell_at hx4 3 _ rfl
      have x4 := Wide.cell_at hx4 4 _ rfl
      have OO := Lib.hid (owned_later HR2.out.own hw4)
      have hs4 := hw4.size
      have hm48 : 3 * k + 1 + 1 + 1 ≤ 1000 := by omega
      have FF4 := Lib.hid (HR2.out.s.later hw4)
      have hpX := HR2.out.s.lt
      clear f0 f1 f2 f3 ff fl d0 d1 d2 d3 df dl l0 l1 l2 l3 l4 lb hx4
      obtain ⟨CS, hCS⟩ : ∃ CS, CS = (T.take (3 * k + 1 + 1)).flatMap uc := ⟨_, rfl⟩
      rw [← hCS] at OO
      have HCS := Lib.hid hCS
      clear hCS
      go_wp2_with (at_builtin; refine wpList_append_own _ rfl (.tmp 52) (.tmp 63) 23 rfl (p + 1) 32 i0 _ 5 40 Try.underlying23 hi hz0 hz1 hz2 rfl (by decide) v2 (3 * k + 1 + 1) CS rfl OO.out ⟨g4, 0, none⟩ 1 1 (uc z2) rfl rfl (five_cells rfl x0 x1 x2 x3 x4) (five_one rfl) (by unfold maxLen; omega) (by omega) (by omega) ?_; intro v5 w5 hown5 hgrow5 _; obtain ⟨g5, c5, rfl, hg5⟩ := owned5_some hown5 (by omega); obtain ⟨d0, d1, d2, d3, df, dl⟩ := FF4.out.grown hgrow5 (owned_ne OO.out (by omega)))
      rw [HCS.out] at hown5
      have HR3 := Lib.hid (HR2.out.app hpw hw4 hgrow5 hown5 HY2.out)
      clear hpX hown5 hgrow5 d0 d1 d2 d3 df dl OO FF4 HCS x0 x1 x2 x3 x4 hs4 hw4
      generalize w5.setCell ⟨p, 3, none⟩ (.slice (some ⟨g5, 0, none⟩) (3 * k + 1 + 1 + 1) c5) = X3 at *
      generalize (Value.slice (some ⟨g5, 0, none⟩) (3 * k + 1 + 1 + 1) c5) = v3 at *
      rw [rounds_succ]
      go_wp2
      refine ⟨⟨k + 1, _, by omega, by rw [HK1.out], Lib.hid (by rw [show 3 * (k + 1) = 3 * k + 1 + 1 + 1 by omega]; exact HR3.out)⟩, ?_⟩
      have := HKI.out
      simp [intOf]
      omega
    · obtain rfl : k = N := by omega
      obtain ⟨f0, f1, f2, f3, ff, fl⟩ := HR.out.f
      clear hz hn hN hp16
      have hNL : 3 * k = L.length := by have := HN.out; have := HLN.out; omega
      have hown := HR.out.own
      obtain ⟨gv, cv, rfl, hgv⟩ := owned5_some hown (by omega)
      rw [hNL, ← HTL.out, List.take_length] at hown
      have hli : Lies wr gv 0 T := owned_lies (T := 32) (base := p + 1) (cap := cv) hown
      have HLi := Lib.hid hli
      have HNL := Lib.hid hNL
      clear hown hli hNL
      go_wp2_with ((with_reducible refine (cS _).mono ?_); rintro e w3 ⟨rfl, hw3⟩; have R3 := HR.out.later hw3; obtain ⟨d0, d1, d2, d3, df, dl⟩ := R3.s; obtain ⟨r0, r1, r2, r3, rf, rl⟩ := R3.r)
      have gX := grown_setCells (w.heap.size + 1) [.int .i64 b, .int .i64 c, .int .i64 a, .slice (some ⟨gv, 0, none⟩) (3 * k) cv] 0 w3
      have R3b := (HR.out.later hw3).b
      have hBX := R3b.grown gX R3b.size (fun j e => by cases e; omega)
      have hL3 := HLi.out.later hw3
      refine bodyPost_ret (v := .tuple #[.agg #[.int .i64 b, .int .i64 c, .int .i64 a, .slice (some ⟨gv, 0, none⟩) (3 * k) cv], .int .i64 0]) ?_ rfl ⟨gv, cv, by rw [HNL.out], ?_, hBX⟩
      · simp [results, Try.results23, go_sem, r0, r1, r2, r3]
      · intro i x hx
        obtain ⟨h0, h1, h2, h3, h4⟩ := hL3 i x hx
        have hne : some gv ≠ some (w.heap.size + 1) := by simp; omega
        exact ⟨gX.cell h0 hne, gX.cell h1 hne, gX.cell h2 hne, gX.cell h3 hne, gX.cell h4 hne⟩

set_option maxHeartbeats 800000 in
theorem refTurn_bad (a b c r : Int) (ao : Option Addr) (cap : Nat) (L : List Q) (w : World) (h : LiesO w ao L) (hr : fldR a b c L r) (hlen : L.length ≤ 1000000) (hne : (r == 0) = false) (hne' : (r != 0) = true) :
    Calls Try.prog 23 #[.agg #[.int .i64 a, .int .i64 b, .int .i64 c, .slice ao L.length cap]] w fun e w' => e = .returned (.tuple #[.agg #[.int .i64 0, .int .i64 0, .int .i64 0, .slice none 0 0], .int .i64 r]) ∧ Below w.heap.size w w' := by
  have cV := fun (W : World) (h : LiesO W ao L) => refValidateF_any a b c r ao cap L W h hr hlen
  have H := Lib.hid h
  clear h hr
  go_enter Try.func23, Try.ntmps23
  go_wp2_with ((with_reducible refine (cV _ (H.out.later (by repeat (first | (with_reducible exact Below.refl _ _) | (with_reducible refine Below.setCell ?_ ?_ _) | (with_reducible refine Below.drew ?_) | (with_reducible refine Below.alloc ?_ ?_ _) | omega | (simp <;> omega))))).mono ?_); rintro e w1 ⟨rfl, hw1⟩; have hc := Tail.cells hw1; have zw10 := Nat.lt_of_lt_of_le (n := w.heap.size) (by simp <;> omega) hw1.size; have zw11 := Nat.lt_of_lt_of_le (n := w.heap.size + 1) (by simp <;> omega) hw1.size)
  refine bodyPost_ret (v := .tuple #[.agg #[.int .i64 0, .int .i64 0, .int .i64 0, .slice none 0 0], .int .i64 r]) ?_ rfl ⟨rfl, ?_⟩
  · simp [results, Try.results23, go_sem, hc, zw10, zw11]
  · repeat (first | (with_reducible exact Below.refl _ _) | (with_reducible refine Below.setCell ?_ ?_ _) | (with_reducible refine Below.drew ?_) | (with_reducible refine Below.alloc ?_ ?_ _) | (with_reducible refine Below.trans ?_ (Below.mono hw1 ?_)) | (with_reducible exact hw1.size) | omega | (simp <;> omega) | (simp <;> (have s := hw1.size; omega)) | (have s0 := hw1.size; (try simp at s0); (try simp); omega))
end Go.Proofs.Ytmmkhkkmgjighaa
