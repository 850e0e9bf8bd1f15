/- The field with opposite links at one end of a direction, as the document's answers make it.
Conditions: the lists lie in memory as it is written at each theorem. -/
import Derived.Test.YtkgihmhehkaocaaGreatRCnC
import Derived.Test.YtkgihmhehkaocaaGreatRGauC
import Derived.Deep.CutRange
namespace Go.Proofs.YtkgihmhehkaocaaGreat
set_option linter.unusedVariables false
set_option linter.unusedSimpArgs false
set_option maxRecDepth 1000000
open Go.RowKit
open Um Tm

theorem neg_wraps {x : Q} (h : V x) (h5 : x.n ≤ 5) : IntKind.i64.wrap (-x.a) = -x.a ∧ IntKind.i64.wrap (-x.b) = -x.b ∧ IntKind.i64.wrap (-x.c) = -x.c ∧ IntKind.i64.wrap (-x.d) = -x.d := by
  obtain ⟨p1, p2, p3, p4, p5, p6, p7, p8⟩ := part_le x h.u
  exact ⟨IntWalk.i64_in _ (by omega), IntWalk.i64_in _ (by omega), IntWalk.i64_in _ (by omega), IntWalk.i64_in _ (by omega)⟩
theorem RG.far {w : World} {p : Nat} {F : Value} {a b c : Int} {T : List Q} {W Y : World} {v : Value} {m ub : Nat} (h : RG w p F a b c T W v m) (hg : W.grownBy Y (some ub)) (h1 : p < ub) (h2 : w.heap.size + 1 < p) (h3 : v.ownBlock ≠ some ub) : RG w p F a b c T Y v m :=
  ⟨h.own.kept hg (.inr h3), h.s.grown hg (fun e => by have := Option.some.inj e; omega), h.f.grown hg (fun e => by have := Option.some.inj e; omega), h.r.grown hg (fun e => by have := Option.some.inj e; omega), h.b.grown hg h.b.size (fun j e => by cases e; omega)⟩
theorem box_U {w : World} {T : TypeId} {x : Q} : LBox (w.alloc (.cells #[.int .i64 x.a, .int .i64 x.b, .int .i64 x.c, .int .i64 x.d, .int .i64 x.n] T)) w.heap.size [x] := ⟨fun i z hz => by
  match i, hz with
  | 0, hz => simp at hz; subst hz; exact ⟨by simp [go_sem], by simp [go_sem], by simp [go_sem], by simp [go_sem], by simp [go_sem]⟩
  | n + 1, hz => simp at hz, fun j => by simp [go_sem], by simp⟩
set_option maxHeartbeats 6400000 in
theorem refCenter_ok0 (a b c : Int) (bl off cap N : Nat) (L : List Q) (w : World) (hl : Lies w bl off L) (hF : Fl a b c L) (hN : (N : Int) = a * b * c) : Calls Tryz.prog 17 #[.agg #[.int .i64 a, .int .i64 b, .int .i64 c, .slice (some ⟨bl, off, none⟩) L.length cap], .int .i64 0] w fun e w' => RetTf a b c L.length (cenL a b c 0 L) e w' ∧ Below w.heap.size w w' := by
  have hlen := fld_len (Fl_fldR hF)
  have hn := hF.n
  have hz := hF.z
  obtain ⟨-, -, p3, -⟩ := mul_rng hz.a1 hz.a4 hz.b1 hz.b4 hz.c1 hz.c4
  have hp16 := hz.p
  have c1 := fun (W : World) (h : Lies W bl off L) => refValidateF_any a b c 0 (some ⟨bl, off, none⟩) cap L W (.inr ⟨bl, off, rfl, h⟩) (Fl_fldR hF) (by omega)
  have HV := Lib.hid (fun (i : Nat) (hi : i < L.length) => hF.v _ _ (lk_at (L := L) hi))
  have hDV := Lib.hid (fun (q : Nat) (hq : (q : Int) < a * b * c) => div_rng hz (s := (q : Int)) (by omega) hq)
  have hNL := Lib.hid hn
  have hl48 : L.length ≤ 48 := by omega
  have HPOS := Lib.hid (show 0 < L.length by omega)
  obtain ⟨a1, a4, b1, b4, c1', c4, -⟩ := hz
  obtain ⟨i0, hi, hz0, hz1, hz2⟩ := info_parts infoU
  have H := Lib.hid hl
  have HT := Lib.hid (fun (k : Nat) (hk : k < L.length) => cenL_get (a := a) (b := b) (c := c) (d := ((0 : Nat) : Int)) (L := L) hk)
  have hF' := Lib.hid (show (cenL a b c ((0 : Nat) : Int) L).take L.length = cenL a b c ((0 : Nat) : Int) L from List.take_of_length_le (by rw [cenL_len]; omega))
  have HM := Lib.hid (show L.length = (cenL a b c ((0 : Nat) : Int) L).length by rw [cenL_len])
  clear hl hF hN p3 hp16 hlen hn
  generalize hT : cenL a b c ((0 : Nat) : Int) L = T at *
  have HTT := Lib.hid hT
  clear hT
  go_enter Tryz.func17, Tryz.ntmps17
  have f0 : FW ((w.alloc (.cells #[.int .i64 a, .int .i64 b, .int .i64 c, .slice (some ⟨bl, off, none⟩) L.length cap] 25)).alloc (.cells #[.int .i64 0, .int .i64 0, .int .i64 0, .slice none 0 0] 25)) w.heap.size a b c (.slice (some ⟨bl, off, none⟩) L.length cap) := FW.n2a
  have g0 : FW ((w.alloc (.cells #[.int .i64 a, .int .i64 b, .int .i64 c, .slice (some ⟨bl, off, none⟩) L.length cap] 25)).alloc (.cells #[.int .i64 0, .int .i64 0, .int .i64 0, .slice none 0 0] 25)) (w.heap.size + 1) 0 0 0 (.slice none 0 0) := FW.n2b
  have F0 := Lib.hid f0
  have G0 := Lib.hid g0
  clear f0 g0
  go_wp2_with (fail)
  refine (c1 _ (H.out.later ba2)).mono ?_
  rintro e w1 ⟨rfl, hw1⟩
  have F1 := Lib.hid ((F0.out.later hw1).later (ba1 (o := .cells #[.int .i64 a, .int .i64 b, .int .i64 c, .slice none 0 0] 25)))
  have G1 := Lib.hid ((G0.out.later hw1).later (ba1 (o := .cells #[.int .i64 a, .int .i64 b, .int .i64 c, .slice none 0 0] 25)))
  have b1' := bel2 hw1
  have B1 := Lib.hid (b1'.trans ((ba1 (o := .cells #[.int .i64 a, .int .i64 b, .int .i64 c, .slice none 0 0] 25)).mono b1'.size))
  have S1 : Hid (FW (w1.alloc (.cells #[.int .i64 a, .int .i64 b, .int .i64 c, .slice none 0 0] 25)) w1.heap.size a b c (.slice none 0 0)) := Lib.hid ⟨by simp [go_sem], by simp [go_sem], by simp [go_sem], by simp [go_sem], fun j => by simp [go_sem], by simp⟩
  have hp1 := Lib.hid ((G0.out.later hw1).lt)
  obtain ⟨f0, f1, f2, f3, ff, fl⟩ := F0.out.later hw1
  have HR0 : Hid (RG w w1.heap.size (.slice (some ⟨bl, off, none⟩) L.length cap) a b c T (w1.alloc (.cells #[.int .i64 a, .int .i64 b, .int .i64 c, .slice none 0 0] 25)) (.slice none 0 0) 0) := Lib.hid ⟨World.ownsRow_nil _ _ _ _, S1.out, F1.out, G1.out, B1.out⟩
  clear hw1 F0 G0 F1 G1 B1 b1' S1 c1
  go_wp2
  clear f0 f1 f2 f3 ff fl
  generalize w1.alloc (.cells #[.int .i64 a, .int .i64 b, .int .i64 c, .slice none 0 0] 25) = W1 at *
  generalize w1.heap.size = p at *
  go_loopw [8] (fun q wr => ∃ (k : Nat) (v : Value), k ≤ L.length ∧ q = .int .i64 k ∧ Hid (RG w p (.slice (some ⟨bl, off, none⟩) L.length cap) a b c T wr v k)) (fun q _ => L.length - (intOf q).toNat)
  case atStart => exact ⟨0, _, by omega, rfl, HR0⟩
  case round =>
    obtain ⟨k, v0, hk, rfl, HR⟩ := hrel
    clear HR0
    obtain ⟨ao, cp, rfl⟩ := owned5_form HR.out.own
    by_cases hlt : k < L.length
    · obtain ⟨hxV, hx5⟩ := HV.out k hlt
      have hTk := HT.out k hlt
      obtain ⟨l0, l1, l2, l3, l4⟩ := (H.out.later HR.out.b) _ _ (lk_at (L := L) hlt)
      have lb1 := World.block_lt_of_cell? _ _ l0
      obtain ⟨nw1, nw2, nw3, nw4⟩ := neg_wraps hxV hx5
      have hKq : cenK a b c ((0 : Nat) : Int) L k = sgC (cenB a b c ((0 : Nat) : Int) (k : Int)) (lk L (k : Int)) := rfl
      generalize lk L (k : Int) = x at *
      obtain ⟨q, hq⟩ : ∃ q : Nat, k / 3 = q := ⟨_, rfl⟩
      have hqa : (q : Int) < a * b * c := by have := hNL.out; omega
      obtain ⟨d0', d1', d2', d3', d4', d5', d6', d7', d8', d9'⟩ := hDV.out q hqa
      have a0 : (a == 0) = false := by simp; omega
      have b0 : (b == 0) = false := by simp; omega
      have q16 : (q : Int) < 16 := by omega
      have e0 : IntKind.i64.wrap ((k : Int) / 3) = (q : Int) := by
        rw [show (k : Int) / 3 = (q : Int) by omega]
        exact IntWalk.i64_in _ (by omega)
      have e0' : (k : Int) / 3 = (q : Int) := by omega
      have e1 : (q : Int).tmod a = (q : Int) % a := Int.tmod_eq_emod_of_nonneg (by omega)
      have e2 : IntKind.i64.wrap ((q : Int).tdiv a) = (q : Int) / a := IntWalk.i64_quo _ _ ⟨by omega, by omega, a1⟩
      have e3 : ((q : Int) / a).tmod b = (q : Int) / a % b := Int.tmod_eq_emod_of_nonneg d2'
      have e4 : IntKind.i64.wrap (((q : Int) / a).tdiv b) = (q : Int) / a / b := IntWalk.i64_quo _ _ ⟨d2', by omega, b1⟩
      have e5 : IntKind.i64.wrap ((q : Int) % a) = (q : Int) % a := IntWalk.i64_in _ (by have := Int.emod_nonneg (q : Int) (show a ≠ 0 by omega); have := Int.emod_lt_of_pos (q : Int) (show 0 < a by omega); omega)
      have e6 : IntKind.i64.wrap ((q : Int) / a % b) = (q : Int) / a % b := IntWalk.i64_in _ (by have := Int.emod_nonneg ((q : Int) / a) (show b ≠ 0 by omega); have := Int.emod_lt_of_pos ((q : Int) / a) (show 0 < b by omega); omega)
      have ik : (k : Int) < (L.length : Int) := by omega
      obtain ⟨f0, f1, f2, f3, ff, fl⟩ := HR.out.f
      have U5 := Lib.hid (box_U (w := wr) (T := 55) (x := x))
      have HR5 := Lib.hid (HR.out.later (ba1 (o := .cells #[.int .i64 x.a, .int .i64 x.b, .int .i64 x.c, .int .i64 x.d, .int .i64 x.n] 55)))
      have hpX := HR.out.s.lt
      go_wp2
      have hne := HR.out.own.lt
      have HNE : Hid ((Value.slice ao k cp).ownBlock ≠ some wr.heap.size) := Lib.hid (fun e => Nat.lt_irrefl _ (hne _ e).2)
      clear hne f0 f1 f2 f3 ff fl l0 l1 l2 l3 l4 lb1 HR
      have HTk := Lib.hid hTk
      clear hTk
      have hXs : wr.heap.size < (wr.alloc (.cells #[.int .i64 x.a, .int .i64 x.b, .int .i64 x.c, .int .i64 x.d, .int .i64 x.n] 55)).heap.size := by simp
      generalize wr.alloc (.cells #[.int .i64 x.a, .int .i64 x.b, .int .i64 x.c, .int .i64 x.d, .int .i64 x.n] 55) = X1 at *
      generalize wr.heap.size = ub at *
      obtain ⟨f0, f1, f2, f3, ff, fl⟩ := HR5.out.f
      apply Made.region_one 27 (.cells #[.int .i64 0, .int .i64 0, .int .i64 0] 22) (fun g => .pointer (some ⟨g, 0, none⟩)) (some 10) (by kernel_rfl) (by kernel_rfl) (by kernel_rfl)
      · intro B hB
        have kc := @Tail.cell_re
        have hcB := Tail.cells hB
        have zB0 := Nat.lt_of_lt_of_le fl hB.size
        simp only [List.take_succ_cons, List.take_zero]
        repeat (go_big_quiet_step (fail))
        exact wpQuiet_nil rfl
      · refine ⟨_, rfl, rfl, fun W => ⟨rfl, ?_⟩⟩
        simp [execOp, go_sem]
      · intro g W hg hW hx
        show wpList _ _ _ (List.drop 28 _) _ _
        simp only [List.drop_succ_cons, List.drop_zero]
        have y0 := Wide.cell_at hx 0 _ rfl
        have y1 := Wide.cell_at hx 1 _ rfl
        have y2 := Wide.cell_at hx 2 _ rfl
        have hgl : g < W.heap.size := (Array.getElem?_eq_some_iff.1 hx).1
        have hfr : ∀ j, W.frozen? ⟨g, j, none⟩ = false := fun j => by simp [World.frozen?, hx]
        have b6 := ((hW.setCell (p := ⟨g, 0, none⟩) hg (.int .i64 ((q : Int) % a))).setCell (p := ⟨g, 1, none⟩) hg (.int .i64 ((q : Int) / a % b))).setCell (p := ⟨g, 2, none⟩) hg (.int .i64 ((q : Int) / a / b))
        have P6 := Lib.hid ((((⟨y0, y1, y2, hfr, hgl⟩ : C3 W g (.int .i64 0) (.int .i64 0) (.int .i64 0)).put0 (.int .i64 ((q : Int) % a))).put1 (.int .i64 ((q : Int) / a % b))).put2 (.int .i64 ((q : Int) / a / b)))
        have HR6 := Lib.hid (HR5.out.later b6)
        have U6 := Lib.hid (U5.out.later b6)
        clear b6
        go_upto_region 12 with (fail)
        clear y0 y1 y2 hgl hfr hx hW HR5 U5 f0 f1 f2 f3 ff fl hg
        generalize ((W.setCell ⟨g, 0, none⟩ (.int .i64 ((q : Int) % a))).setCell ⟨g, 1, none⟩ (.int .i64 ((q : Int) / a % b))).setCell ⟨g, 2, none⟩ (.int .i64 ((q : Int) / a / b)) = Z at *
        obtain ⟨k0, k1, k2, kf, kl⟩ := P6.out
        obtain ⟨⟨u0, u1', u2, u3, u4⟩, uf, ul⟩ := one_boxI U6.out
        have hcB : cenB a b c ((0 : Nat) : Int) (k : Int) = (decide ((k : Int) % 3 = ((0 : Nat) : Int)) && decide ((q : Int) % a = 0)) := by
          unfold cenB
          rw [e0']
          rfl
        obtain ⟨m, hm⟩ : ∃ m : Nat, k % 3 = m := ⟨_, rfl⟩
        have em : (k : Int).tmod 3 = (m : Int) := by rw [Int.tmod_eq_emod_of_nonneg (by omega)]; omega
        have em' : (k : Int) % 3 = (m : Int) := by omega
        rw [hcB, em'] at hKq
        clear hcB e0 e0' e1 e2 e3 e4 e5 e6 a0 b0 d0' d1' d2' d3' d4' d5' d6' d7' d8' d9' hq hm hqa q16
        generalize hp0 : (q : Int) % a = p0 at *
        generalize hp1' : (q : Int) / a % b = p1 at *
        generalize hp2' : (q : Int) / a / b = p2 at *
        clear hp0 hp1' hp2'
        by_cases hmD : m = 0
        · subst hmD
          by_cases hpl : p0 = 0
          · subst hpl
            have HKq : Hid (cenK a b c ((0 : Nat) : Int) L k = neg x) := Lib.hid (by rw [hKq]; rfl)
            have GU := grown_setCells ub (uc (neg x)) 0 Z
            have HR7 := Lib.hid (HR6.out.far GU (Nat.lt_of_lt_of_le hpX (Nat.le_refl _)) hp1.out HNE.out)
            have U7 : Hid (LBox (Z.setCells ub 0 (uc (neg x))) ub [neg x]) := Lib.hid (U6.out.put 0 (by simp) (neg x))
            clear GU hKq
            go_upto_region 14 with (fail)
            clear u0 u1' u2 u3 u4 uf ul k0 k1 k2 kf kl nw1 nw2 nw3 nw4 U6 HR6 P6
            change Hid (LBox (((((Z.setCell ⟨ub, 0, none⟩ (.int .i64 (-x.a))).setCell ⟨ub, 1, none⟩ (.int .i64 (-x.b))).setCell ⟨ub, 2, none⟩ (.int .i64 (-x.c))).setCell ⟨ub, 3, none⟩ (.int .i64 (-x.d))).setCell ⟨ub, 4, none⟩ (.int .i64 x.n)) ub [neg x]) at U7
            change Hid (RG w p (.slice (some ⟨bl, off, none⟩) L.length cap) a b c T (((((Z.setCell ⟨ub, 0, none⟩ (.int .i64 (-x.a))).setCell ⟨ub, 1, none⟩ (.int .i64 (-x.b))).setCell ⟨ub, 2, none⟩ (.int .i64 (-x.c))).setCell ⟨ub, 3, none⟩ (.int .i64 (-x.d))).setCell ⟨ub, 4, none⟩ (.int .i64 x.n)) (.slice ao k cp) k) at HR7
            generalize ((((Z.setCell ⟨ub, 0, none⟩ (.int .i64 (-x.a))).setCell ⟨ub, 1, none⟩ (.int .i64 (-x.b))).setCell ⟨ub, 2, none⟩ (.int .i64 (-x.c))).setCell ⟨ub, 3, none⟩ (.int .i64 (-x.d))).setCell ⟨ub, 4, none⟩ (.int .i64 x.n) = Z2 at *
            generalize neg x = yy at *
            obtain ⟨⟨u0, u1', u2, u3, u4⟩, uf, ul⟩ := one_boxI U7.out
            have OOx := Lib.hid (owned_later HR7.out.own (ba1 (o := .cells #[.int .i64 yy.a, .int .i64 yy.b, .int .i64 yy.c, .int .i64 yy.d, .int .i64 yy.n] 55)))
            have FFx := Lib.hid (HR7.out.s.later (ba1 (o := .cells #[.int .i64 yy.a, .int .i64 yy.b, .int .i64 yy.c, .int .i64 yy.d, .int .i64 yy.n] 55)))
            have hs4 := HR7.out.s.lt
            have HY : Hid (T[k]? = some (yy)) := Lib.hid (by rw [HTk.out, HKq.out])
            obtain ⟨d0, d1, d2, d3, df, dl⟩ := HR7.out.s
            obtain ⟨f0, f1, f2, f3, ff, fl⟩ := HR7.out.f
            obtain ⟨CS, hCS⟩ : ∃ CS, CS = (T.take k).flatMap uc := ⟨_, rfl⟩
            rw [← hCS] at OOx
            have HCS := Lib.hid hCS
            have hp2 := hp1.out
            clear hCS
            go_wp2_with (at_builtin; refine wpList_append_own _ rfl (.tmp 92) (.tmp 94) 23 rfl (p + 1) 55 i0 _ 5 40 Tryz.underlying23 hi hz0 hz1 hz2 rfl (by decide) (.slice ao k cp) k CS rfl OOx.out ⟨Z2.heap.size, 0, none⟩ 1 1 (uc (yy)) rfl rfl (five_cells rfl (by simp [go_sem]) (by simp [go_sem]) (by simp [go_sem]) (by simp [go_sem]) (by simp [go_sem])) (five_one rfl) (by unfold maxLen; omega) (by omega) (by simp; omega) ?_; intro v5 w5 hown5 hgrow5 _; obtain ⟨g5, c5, rfl, hg5⟩ := owned5_some hown5 (by omega); clear d0 d1 d2 d3 df dl; obtain ⟨d0, d1, d2, d3, df, dl⟩ := FFx.out.grown hgrow5 (owned_ne OOx.out (by omega)))
            rw [HCS.out] at hown5
            have HR1 := Lib.hid (HR7.out.app hp2 (ba1 (o := .cells #[.int .i64 yy.a, .int .i64 yy.b, .int .i64 yy.c, .int .i64 yy.d, .int .i64 yy.n] 55)) hgrow5 hown5 HY.out)
            clear hown5 hgrow5 d0 d1 d2 d3 df dl OOx FFx HCS hs4 f0 f1 f2 f3 ff fl hp2
            go_wp2
            exact ⟨⟨k + 1, _, by omega, by go_num, HR1⟩, by simp [intOf]; omega⟩
          · have HKq : Hid (cenK a b c ((0 : Nat) : Int) L k = x) := Lib.hid (by rw [hKq, decide_eq_false hpl, Bool.and_false]; rfl)
            have t2 : (p0 == 0) = false := by simpa using hpl
            clear hKq hpl
            have OOx := Lib.hid (owned_later HR6.out.own (ba1 (o := .cells #[.int .i64 x.a, .int .i64 x.b, .int .i64 x.c, .int .i64 x.d, .int .i64 x.n] 55)))
            have FFx := Lib.hid (HR6.out.s.later (ba1 (o := .cells #[.int .i64 x.a, .int .i64 x.b, .int .i64 x.c, .int .i64 x.d, .int .i64 x.n] 55)))
            have hs4 := HR6.out.s.lt
            have HY : Hid (T[k]? = some (x)) := Lib.hid (by rw [HTk.out, HKq.out])
            obtain ⟨d0, d1, d2, d3, df, dl⟩ := HR6.out.s
            obtain ⟨f0, f1, f2, f3, ff, fl⟩ := HR6.out.f
            obtain ⟨CS, hCS⟩ : ∃ CS, CS = (T.take k).flatMap uc := ⟨_, rfl⟩
            rw [← hCS] at OOx
            have HCS := Lib.hid hCS
            have hp2 := hp1.out
            clear hCS
            go_wp2_with (at_builtin; refine wpList_append_own _ rfl (.tmp 92) (.tmp 94) 23 rfl (p + 1) 55 i0 _ 5 40 Tryz.underlying23 hi hz0 hz1 hz2 rfl (by decide) (.slice ao k cp) k CS rfl OOx.out ⟨Z.heap.size, 0, none⟩ 1 1 (uc (x)) rfl rfl (five_cells rfl (by simp [go_sem]) (by simp [go_sem]) (by simp [go_sem]) (by simp [go_sem]) (by simp [go_sem])) (five_one rfl) (by unfold maxLen; omega) (by omega) (by simp; omega) ?_; intro v5 w5 hown5 hgrow5 _; obtain ⟨g5, c5, rfl, hg5⟩ := owned5_some hown5 (by omega); clear d0 d1 d2 d3 df dl; obtain ⟨d0, d1, d2, d3, df, dl⟩ := FFx.out.grown hgrow5 (owned_ne OOx.out (by omega)))
            rw [HCS.out] at hown5
            have HR1 := Lib.hid (HR6.out.app hp2 (ba1 (o := .cells #[.int .i64 x.a, .int .i64 x.b, .int .i64 x.c, .int .i64 x.d, .int .i64 x.n] 55)) hgrow5 hown5 HY.out)
            clear hown5 hgrow5 d0 d1 d2 d3 df dl OOx FFx HCS hs4 f0 f1 f2 f3 ff fl hp2
            go_wp2
            exact ⟨⟨k + 1, _, by omega, by go_num, HR1⟩, by simp [intOf]; omega⟩
        · have HKq : Hid (cenK a b c ((0 : Nat) : Int) L k = x) := Lib.hid (by rw [hKq, decide_eq_false (show ¬ ((m : Int) = ((0 : Nat) : Int)) by omega), Bool.false_and]; rfl)
          have t1 : ((m : Int) == 0) = false := by simp; omega
          clear hKq hmD
          have OOx := Lib.hid (owned_later HR6.out.own (ba1 (o := .cells #[.int .i64 x.a, .int .i64 x.b, .int .i64 x.c, .int .i64 x.d, .int .i64 x.n] 55)))
          have FFx := Lib.hid (HR6.out.s.later (ba1 (o := .cells #[.int .i64 x.a, .int .i64 x.b, .int .i64 x.c, .int .i64 x.d, .int .i64 x.n] 55)))
          have hs4 := HR6.out.s.lt
          have HY : Hid (T[k]? = some (x)) := Lib.hid (by rw [HTk.out, HKq.out])
          obtain ⟨d0, d1, d2, d3, df, dl⟩ := HR6.out.s
          obtain ⟨f0, f1, f2, f3, ff, fl⟩ := HR6.out.f
          obtain ⟨CS, hCS⟩ : ∃ CS, CS = (T.take k).flatMap uc := ⟨_, rfl⟩
          rw [← hCS] at OOx
          have HCS := Lib.hid hCS
          have hp2 := hp1.out
          clear hCS
          go_wp2_with (at_builtin; refine wpList_append_own _ rfl (.tmp 92) (.tmp 94) 23 rfl (p + 1) 55 i0 _ 5 40 Tryz.underlying23 hi hz0 hz1 hz2 rfl (by decide) (.slice ao k cp) k CS rfl OOx.out ⟨Z.heap.size, 0, none⟩ 1 1 (uc (x)) rfl rfl (five_cells rfl (by simp [go_sem]) (by simp [go_sem]) (by simp [go_sem]) (by simp [go_sem]) (by simp [go_sem])) (five_one rfl) (by unfold maxLen; omega) (by omega) (by simp; omega) ?_; intro v5 w5 hown5 hgrow5 _; obtain ⟨g5, c5, rfl, hg5⟩ := owned5_some hown5 (by omega); clear d0 d1 d2 d3 df dl; obtain ⟨d0, d1, d2, d3, df, dl⟩ := FFx.out.grown hgrow5 (owned_ne OOx.out (by omega)))
          rw [HCS.out] at hown5
          have HR1 := Lib.hid (HR6.out.app hp2 (ba1 (o := .cells #[.int .i64 x.a, .int .i64 x.b, .int .i64 x.c, .int .i64 x.d, .int .i64 x.n] 55)) hgrow5 hown5 HY.out)
          clear hown5 hgrow5 d0 d1 d2 d3 df dl OOx FFx HCS hs4 f0 f1 f2 f3 ff fl hp2
          go_wp2
          exact ⟨⟨k + 1, _, by omega, by go_num, HR1⟩, by simp [intOf]; omega⟩
    · obtain rfl : k = L.length := by omega
      have ho := HR.out.own
      rw [hF'.out] at ho
      obtain ⟨g, kc, hgk, hgb⟩ := owned5_some ho HPOS.out
      simp only [Value.slice.injEq, true_and] at hgk
      obtain ⟨rfl, rfl⟩ := hgk
      obtain ⟨LB, hgb2⟩ := owned_LBox HM.out ho
      have HL := Lib.hid LB
      obtain ⟨r0, r1, r2, r3, rf, rl⟩ := HR.out.r
      obtain ⟨d0, d1, d2, d3, df, dl⟩ := HR.out.s
      obtain ⟨f0, f1, f2, f3, ff, fl⟩ := HR.out.f
      have hp2 := hp1.out
      have gX := grown4 (w := wr) (w.heap.size + 1) (.int .i64 a) (.int .i64 b) (.int .i64 c) (.slice (some ⟨g, 0, none⟩) L.length cp)
      have bX := HR.out.b.grown gX HR.out.b.size (fun j e => by cases e; omega)
      have LX : Hid (LBox _ g (cenL a b c ((0 : Nat) : Int) L)) := Lib.hid (by rw [HTT.out]; exact HL.out.grown gX (fun e => by have := Option.some.inj e; omega))
      have LY := Lib.hid (HL.out.grown gX (fun e => by have := Option.some.inj e; omega))
      have HBX := Lib.hid bX
      clear ho LB gX bX hgb hgb2 hp2 HR HL
      go_wp2
      refine bodyPost_ret (v := .tuple #[.agg #[.int .i64 a, .int .i64 b, .int .i64 c, .slice (some ⟨g, 0, none⟩) L.length cp], .int .i64 0]) ?_ rfl ⟨⟨g, cp, rfl, by first | exact LY.out | exact LX.out⟩, HBX.out⟩
      simp [results, Tryz.results17, go_sem, r0, r1, r2, r3, rl]
set_option maxHeartbeats 6400000 in
theorem refCenter_ok1 (a b c : Int) (bl off cap N : Nat) (L : List Q) (w : World) (hl : Lies w bl off L) (hF : Fl a b c L) (hN : (N : Int) = a * b * c) : Calls Tryz.prog 17 #[.agg #[.int .i64 a, .int .i64 b, .int .i64 c, .slice (some ⟨bl, off, none⟩) L.length cap], .int .i64 1] w fun e w' => RetTf a b c L.length (cenL a b c 1 L) e w' ∧ Below w.heap.size w w' := by
  have hlen := fld_len (Fl_fldR hF)
  have hn := hF.n
  have hz := hF.z
  obtain ⟨-, -, p3, -⟩ := mul_rng hz.a1 hz.a4 hz.b1 hz.b4 hz.c1 hz.c4
  have hp16 := hz.p
  have c1 := fun (W : World) (h : Lies W bl off L) => refValidateF_any a b c 0 (some ⟨bl, off, none⟩) cap L W (.inr ⟨bl, off, rfl, h⟩) (Fl_fldR hF) (by omega)
  have HV := Lib.hid (fun (i : Nat) (hi : i < L.length) => hF.v _ _ (lk_at (L := L) hi))
  have hDV := Lib.hid (fun (q : Nat) (hq : (q : Int) < a * b * c) => div_rng hz (s := (q : Int)) (by omega) hq)
  have hNL := Lib.hid hn
  have hl48 : L.length ≤ 48 := by omega
  have HPOS := Lib.hid (show 0 < L.length by omega)
  obtain ⟨a1, a4, b1, b4, c1', c4, -⟩ := hz
  obtain ⟨i0, hi, hz0, hz1, hz2⟩ := info_parts infoU
  have H := Lib.hid hl
  have HT := Lib.hid (fun (k : Nat) (hk : k < L.length) => cenL_get (a := a) (b := b) (c := c) (d := ((1 : Nat) : Int)) (L := L) hk)
  have hF' := Lib.hid (show (cenL a b c ((1 : Nat) : Int) L).take L.length = cenL a b c ((1 : Nat) : Int) L from List.take_of_length_le (by rw [cenL_len]; omega))
  have HM := Lib.hid (show L.length = (cenL a b c ((1 : Nat) : Int) L).length by rw [cenL_len])
  clear hl hF hN p3 hp16 hlen hn
  generalize hT : cenL a b c ((1 : Nat) : Int) L = T at *
  have HTT := Lib.hid hT
  clear hT
  go_enter Tryz.func17, Tryz.ntmps17
  have f0 : FW ((w.alloc (.cells #[.int .i64 a, .int .i64 b, .int .i64 c, .slice (some ⟨bl, off, none⟩) L.length cap] 25)).alloc (.cells #[.int .i64 0, .int .i64 0, .int .i64 0, .slice none 0 0] 25)) w.heap.size a b c (.slice (some ⟨bl, off, none⟩) L.length cap) := FW.n2a
  have g0 : FW ((w.alloc (.cells #[.int .i64 a, .int .i64 b, .int .i64 c, .slice (some ⟨bl, off, none⟩) L.length cap] 25)).alloc (.cells #[.int .i64 0, .int .i64 0, .int .i64 0, .slice none 0 0] 25)) (w.heap.size + 1) 0 0 0 (.slice none 0 0) := FW.n2b
  have F0 := Lib.hid f0
  have G0 := Lib.hid g0
  clear f0 g0
  go_wp2_with (fail)
  refine (c1 _ (H.out.later ba2)).mono ?_
  rintro e w1 ⟨rfl, hw1⟩
  have F1 := Lib.hid ((F0.out.later hw1).later (ba1 (o := .cells #[.int .i64 a, .int .i64 b, .int .i64 c, .slice none 0 0] 25)))
  have G1 := Lib.hid ((G0.out.later hw1).later (ba1 (o := .cells #[.int .i64 a, .int .i64 b, .int .i64 c, .slice none 0 0] 25)))
  have b1' := bel2 hw1
  have B1 := Lib.hid (b1'.trans ((ba1 (o := .cells #[.int .i64 a, .int .i64 b, .int .i64 c, .slice none 0 0] 25)).mono b1'.size))
  have S1 : Hid (FW (w1.alloc (.cells #[.int .i64 a, .int .i64 b, .int .i64 c, .slice none 0 0] 25)) w1.heap.size a b c (.slice none 0 0)) := Lib.hid ⟨by simp [go_sem], by simp [go_sem], by simp [go_sem], by simp [go_sem], fun j => by simp [go_sem], by simp⟩
  have hp1 := Lib.hid ((G0.out.later hw1).lt)
  obtain ⟨f0, f1, f2, f3, ff, fl⟩ := F0.out.later hw1
  have HR0 : Hid (RG w w1.heap.size (.slice (some ⟨bl, off, none⟩) L.length cap) a b c T (w1.alloc (.cells #[.int .i64 a, .int .i64 b, .int .i64 c, .slice none 0 0] 25)) (.slice none 0 0) 0) := Lib.hid ⟨World.ownsRow_nil _ _ _ _, S1.out, F1.out, G1.out, B1.out⟩
  clear hw1 F0 G0 F1 G1 B1 b1' S1 c1
  go_wp2
  clear f0 f1 f2 f3 ff fl
  generalize w1.alloc (.cells #[.int .i64 a, .int .i64 b, .int .i64 c, .slice none 0 0] 25) = W1 at *
  generalize w1.heap.size = p at *
  go_loopw [8] (fun q wr => ∃ (k : Nat) (v : Value), k ≤ L.length ∧ q = .int .i64 k ∧ Hid (RG w p (.slice (some ⟨bl, off, none⟩) L.length cap) a b c T wr v k)) (fun q _ => L.length - (intOf q).toNat)
  case atStart => exact ⟨0, _, by omega, rfl, HR0⟩
  case round =>
    obtain ⟨k, v0, hk, rfl, HR⟩ := hrel
    clear HR0
    obtain ⟨ao, cp, rfl⟩ := owned5_form HR.out.own
    by_cases hlt : k < L.length
    · obtain ⟨hxV, hx5⟩ := HV.out k hlt
      have hTk := HT.out k hlt
      obtain ⟨l0, l1, l2, l3, l4⟩ := (H.out.later HR.out.b) _ _ (lk_at (L := L) hlt)
      have lb1 := World.block_lt_of_cell? _ _ l0
      obtain ⟨nw1, nw2, nw3, nw4⟩ := neg_wraps hxV hx5
      have hKq : cenK a b c ((1 : Nat) : Int) L k = sgC (cenB a b c ((1 : Nat) : Int) (k : Int)) (lk L (k : Int)) := rfl
      generalize lk L (k : Int) = x at *
      obtain ⟨q, hq⟩ : ∃ q : Nat, k / 3 = q := ⟨_, rfl⟩
      have hqa : (q : Int) < a * b * c := by have := hNL.out; omega
      obtain ⟨d0', d1', d2', d3', d4', d5', d6', d7', d8', d9'⟩ := hDV.out q hqa
      have a0 : (a == 0) = false := by simp; omega
      have b0 : (b == 0) = false := by simp; omega
      have q16 : (q : Int) < 16 := by omega
      have e0 : IntKind.i64.wrap ((k : Int) / 3) = (q : Int) := by
        rw [show (k : Int) / 3 = (q : Int) by omega]
        exact IntWalk.i64_in _ (by omega)
      have e0' : (k : Int) / 3 = (q : Int) := by omega
      have e1 : (q : Int).tmod a = (q : Int) % a := Int.tmod_eq_emod_of_nonneg (by omega)
      have e2 : IntKind.i64.wrap ((q : Int).tdiv a) = (q : Int) / a := IntWalk.i64_quo _ _ ⟨by omega, by omega, a1⟩
      have e3 : ((q : Int) / a).tmod b = (q : Int) / a % b := Int.tmod_eq_emod_of_nonneg d2'
      have e4 : IntKind.i64.wrap (((q : Int) / a).tdiv b) = (q : Int) / a / b := IntWalk.i64_quo _ _ ⟨d2', by omega, b1⟩
      have e5 : IntKind.i64.wrap ((q : Int) % a) = (q : Int) % a := IntWalk.i64_in _ (by have := Int.emod_nonneg (q : Int) (show a ≠ 0 by omega); have := Int.emod_lt_of_pos (q : Int) (show 0 < a by omega); omega)
      have e6 : IntKind.i64.wrap ((q : Int) / a % b) = (q : Int) / a % b := IntWalk.i64_in _ (by have := Int.emod_nonneg ((q : Int) / a) (show b ≠ 0 by omega); have := Int.emod_lt_of_pos ((q : Int) / a) (show 0 < b by omega); omega)
      have ik : (k : Int) < (L.length : Int) := by omega
      obtain ⟨f0, f1, f2, f3, ff, fl⟩ := HR.out.f
      have U5 := Lib.hid (box_U (w := wr) (T := 55) (x := x))
      have HR5 := Lib.hid (HR.out.later (ba1 (o := .cells #[.int .i64 x.a, .int .i64 x.b, .int .i64 x.c, .int .i64 x.d, .int .i64 x.n] 55)))
      have hpX := HR.out.s.lt
      go_wp2
      have hne := HR.out.own.lt
      have HNE : Hid ((Value.slice ao k cp).ownBlock ≠ some wr.heap.size) := Lib.hid (fun e => Nat.lt_irrefl _ (hne _ e).2)
      clear hne f0 f1 f2 f3 ff fl l0 l1 l2 l3 l4 lb1 HR
      have HTk := Lib.hid hTk
      clear hTk
      have hXs : wr.heap.size < (wr.alloc (.cells #[.int .i64 x.a, .int .i64 x.b, .int .i64 x.c, .int .i64 x.d, .int .i64 x.n] 55)).heap.size := by simp
      generalize wr.alloc (.cells #[.int .i64 x.a, .int .i64 x.b, .int .i64 x.c, .int .i64 x.d, .int .i64 x.n] 55) = X1 at *
      generalize wr.heap.size = ub at *
      obtain ⟨f0, f1, f2, f3, ff, fl⟩ := HR5.out.f
      apply Made.region_one 27 (.cells #[.int .i64 0, .int .i64 0, .int .i64 0] 22) (fun g => .pointer (some ⟨g, 0, none⟩)) (some 10) (by kernel_rfl) (by kernel_rfl) (by kernel_rfl)
      · intro B hB
        have kc := @Tail.cell_re
        have hcB := Tail.cells hB
        have zB0 := Nat.lt_of_lt_of_le fl hB.size
        simp only [List.take_succ_cons, List.take_zero]
        repeat (go_big_quiet_step (fail))
        exact wpQuiet_nil rfl
      · refine ⟨_, rfl, rfl, fun W => ⟨rfl, ?_⟩⟩
        simp [execOp, go_sem]
      · intro g W hg hW hx
        show wpList _ _ _ (List.drop 28 _) _ _
        simp only [List.drop_succ_cons, List.drop_zero]
        have y0 := Wide.cell_at hx 0 _ rfl
        have y1 := Wide.cell_at hx 1 _ rfl
        have y2 := Wide.cell_at hx 2 _ rfl
        have hgl : g < W.heap.size := (Array.getElem?_eq_some_iff.1 hx).1
        have hfr : ∀ j, W.frozen? ⟨g, j, none⟩ = false := fun j => by simp [World.frozen?, hx]
        have b6 := ((hW.setCell (p := ⟨g, 0, none⟩) hg (.int .i64 ((q : Int) % a))).setCell (p := ⟨g, 1, none⟩) hg (.int .i64 ((q : Int) / a % b))).setCell (p := ⟨g, 2, none⟩) hg (.int .i64 ((q : Int) / a / b))
        have P6 := Lib.hid ((((⟨y0, y1, y2, hfr, hgl⟩ : C3 W g (.int .i64 0) (.int .i64 0) (.int .i64 0)).put0 (.int .i64 ((q : Int) % a))).put1 (.int .i64 ((q : Int) / a % b))).put2 (.int .i64 ((q : Int) / a / b)))
        have HR6 := Lib.hid (HR5.out.later b6)
        have U6 := Lib.hid (U5.out.later b6)
        clear b6
        go_upto_region 12 with (fail)
        clear y0 y1 y2 hgl hfr hx hW HR5 U5 f0 f1 f2 f3 ff fl hg
        generalize ((W.setCell ⟨g, 0, none⟩ (.int .i64 ((q : Int) % a))).setCell ⟨g, 1, none⟩ (.int .i64 ((q : Int) / a % b))).setCell ⟨g, 2, none⟩ (.int .i64 ((q : Int) / a / b)) = Z at *
        obtain ⟨k0, k1, k2, kf, kl⟩ := P6.out
        obtain ⟨⟨u0, u1', u2, u3, u4⟩, uf, ul⟩ := one_boxI U6.out
        have hcB : cenB a b c ((1 : Nat) : Int) (k : Int) = (decide ((k : Int) % 3 = ((1 : Nat) : Int)) && decide ((q : Int) / a % b = 0)) := by
          unfold cenB
          rw [e0']
          rfl
        obtain ⟨m, hm⟩ : ∃ m : Nat, k % 3 = m := ⟨_, rfl⟩
        have em : (k : Int).tmod 3 = (m : Int) := by rw [Int.tmod_eq_emod_of_nonneg (by omega)]; omega
        have em' : (k : Int) % 3 = (m : Int) := by omega
        rw [hcB, em'] at hKq
        clear hcB e0 e0' e1 e2 e3 e4 e5 e6 a0 b0 d0' d1' d2' d3' d4' d5' d6' d7' d8' d9' hq hm hqa q16
        generalize hp0 : (q : Int) % a = p0 at *
        generalize hp1' : (q : Int) / a % b = p1 at *
        generalize hp2' : (q : Int) / a / b = p2 at *
        clear hp0 hp1' hp2'
        by_cases hmD : m = 1
        · subst hmD
          by_cases hpl : p1 = 0
          · subst hpl
            have HKq : Hid (cenK a b c ((1 : Nat) : Int) L k = neg x) := Lib.hid (by rw [hKq]; rfl)
            have GU := grown_setCells ub (uc (neg x)) 0 Z
            have HR7 := Lib.hid (HR6.out.far GU (Nat.lt_of_lt_of_le hpX (Nat.le_refl _)) hp1.out HNE.out)
            have U7 : Hid (LBox (Z.setCells ub 0 (uc (neg x))) ub [neg x]) := Lib.hid (U6.out.put 0 (by simp) (neg x))
            clear GU hKq
            go_upto_region 14 with (fail)
            clear u0 u1' u2 u3 u4 uf ul k0 k1 k2 kf kl nw1 nw2 nw3 nw4 U6 HR6 P6
            change Hid (LBox (((((Z.setCell ⟨ub, 0, none⟩ (.int .i64 (-x.a))).setCell ⟨ub, 1, none⟩ (.int .i64 (-x.b))).setCell ⟨ub, 2, none⟩ (.int .i64 (-x.c))).setCell ⟨ub, 3, none⟩ (.int .i64 (-x.d))).setCell ⟨ub, 4, none⟩ (.int .i64 x.n)) ub [neg x]) at U7
            change Hid (RG w p (.slice (some ⟨bl, off, none⟩) L.length cap) a b c T (((((Z.setCell ⟨ub, 0, none⟩ (.int .i64 (-x.a))).setCell ⟨ub, 1, none⟩ (.int .i64 (-x.b))).setCell ⟨ub, 2, none⟩ (.int .i64 (-x.c))).setCell ⟨ub, 3, none⟩ (.int .i64 (-x.d))).setCell ⟨ub, 4, none⟩ (.int .i64 x.n)) (.slice ao k cp) k) at HR7
            generalize ((((Z.setCell ⟨ub, 0, none⟩ (.int .i64 (-x.a))).setCell ⟨ub, 1, none⟩ (.int .i64 (-x.b))).setCell ⟨ub, 2, none⟩ (.int .i64 (-x.c))).setCell ⟨ub, 3, none⟩ (.int .i64 (-x.d))).setCell ⟨ub, 4, none⟩ (.int .i64 x.n) = Z2 at *
            generalize neg x = yy at *
            obtain ⟨⟨u0, u1', u2, u3, u4⟩, uf, ul⟩ := one_boxI U7.out
            have OOx := Lib.hid (owned_later HR7.out.own (ba1 (o := .cells #[.int .i64 yy.a, .int .i64 yy.b, .int .i64 yy.c, .int .i64 yy.d, .int .i64 yy.n] 55)))
            have FFx := Lib.hid (HR7.out.s.later (ba1 (o := .cells #[.int .i64 yy.a, .int .i64 yy.b, .int .i64 yy.c, .int .i64 yy.d, .int .i64 yy.n] 55)))
            have hs4 := HR7.out.s.lt
            have HY : Hid (T[k]? = some (yy)) := Lib.hid (by rw [HTk.out, HKq.out])
            obtain ⟨d0, d1, d2, d3, df, dl⟩ := HR7.out.s
            obtain ⟨f0, f1, f2, f3, ff, fl⟩ := HR7.out.f
            obtain ⟨CS, hCS⟩ : ∃ CS, CS = (T.take k).flatMap uc := ⟨_, rfl⟩
            rw [← hCS] at OOx
            have HCS := Lib.hid hCS
            have hp2 := hp1.out
            clear hCS
            go_wp2_with (at_builtin; refine wpList_append_own _ rfl (.tmp 92) (.tmp 94) 23 rfl (p + 1) 55 i0 _ 5 40 Tryz.underlying23 hi hz0 hz1 hz2 rfl (by decide) (.slice ao k cp) k CS rfl OOx.out ⟨Z2.heap.size, 0, none⟩ 1 1 (uc (yy)) rfl rfl (five_cells rfl (by simp [go_sem]) (by simp [go_sem]) (by simp [go_sem]) (by simp [go_sem]) (by simp [go_sem])) (five_one rfl) (by unfold maxLen; omega) (by omega) (by simp; omega) ?_; intro v5 w5 hown5 hgrow5 _; obtain ⟨g5, c5, rfl, hg5⟩ := owned5_some hown5 (by omega); clear d0 d1 d2 d3 df dl; obtain ⟨d0, d1, d2, d3, df, dl⟩ := FFx.out.grown hgrow5 (owned_ne OOx.out (by omega)))
            rw [HCS.out] at hown5
            have HR1 := Lib.hid (HR7.out.app hp2 (ba1 (o := .cells #[.int .i64 yy.a, .int .i64 yy.b, .int .i64 yy.c, .int .i64 yy.d, .int .i64 yy.n] 55)) hgrow5 hown5 HY.out)
            clear hown5 hgrow5 d0 d1 d2 d3 df dl OOx FFx HCS hs4 f0 f1 f2 f3 ff fl hp2
            go_wp2
            exact ⟨⟨k + 1, _, by omega, by go_num, HR1⟩, by simp [intOf]; omega⟩
          · have HKq : Hid (cenK a b c ((1 : Nat) : Int) L k = x) := Lib.hid (by rw [hKq, decide_eq_false hpl, Bool.and_false]; rfl)
            have t2 : (p1 == 0) = false := by simpa using hpl
            clear hKq hpl
            have OOx := Lib.hid (owned_later HR6.out.own (ba1 (o := .cells #[.int .i64 x.a, .int .i64 x.b, .int .i64 x.c, .int .i64 x.d, .int .i64 x.n] 55)))
            have FFx := Lib.hid (HR6.out.s.later (ba1 (o := .cells #[.int .i64 x.a, .int .i64 x.b, .int .i64 x.c, .int .i64 x.d, .int .i64 x.n] 55)))
            have hs4 := HR6.out.s.lt
            have HY : Hid (T[k]? = some (x)) := Lib.hid (by rw [HTk.out, HKq.out])
            obtain ⟨d0, d1, d2, d3, df, dl⟩ := HR6.out.s
            obtain ⟨f0, f1, f2, f3, ff, fl⟩ := HR6.out.f
            obtain ⟨CS, hCS⟩ : ∃ CS, CS = (T.take k).flatMap uc := ⟨_, rfl⟩
            rw [← hCS] at OOx
            have HCS := Lib.hid hCS
            have hp2 := hp1.out
            clear hCS
            go_wp2_with (at_builtin; refine wpList_append_own _ rfl (.tmp 92) (.tmp 94) 23 rfl (p + 1) 55 i0 _ 5 40 Tryz.underlying23 hi hz0 hz1 hz2 rfl (by decide) (.slice ao k cp) k CS rfl OOx.out ⟨Z.heap.size, 0, none⟩ 1 1 (uc (x)) rfl rfl (five_cells rfl (by simp [go_sem]) (by simp [go_sem]) (by simp [go_sem]) (by simp [go_sem]) (by simp [go_sem])) (five_one rfl) (by unfold maxLen; omega) (by omega) (by simp; omega) ?_; intro v5 w5 hown5 hgrow5 _; obtain ⟨g5, c5, rfl, hg5⟩ := owned5_some hown5 (by omega); clear d0 d1 d2 d3 df dl; obtain ⟨d0, d1, d2, d3, df, dl⟩ := FFx.out.grown hgrow5 (owned_ne OOx.out (by omega)))
            rw [HCS.out] at hown5
            have HR1 := Lib.hid (HR6.out.app hp2 (ba1 (o := .cells #[.int .i64 x.a, .int .i64 x.b, .int .i64 x.c, .int .i64 x.d, .int .i64 x.n] 55)) hgrow5 hown5 HY.out)
            clear hown5 hgrow5 d0 d1 d2 d3 df dl OOx FFx HCS hs4 f0 f1 f2 f3 ff fl hp2
            go_wp2
            exact ⟨⟨k + 1, _, by omega, by go_num, HR1⟩, by simp [intOf]; omega⟩
        · have HKq : Hid (cenK a b c ((1 : Nat) : Int) L k = x) := Lib.hid (by rw [hKq, decide_eq_false (show ¬ ((m : Int) = ((1 : Nat) : Int)) by omega), Bool.false_and]; rfl)
          have t1 : ((m : Int) == 1) = false := by simp; omega
          clear hKq hmD
          have OOx := Lib.hid (owned_later HR6.out.own (ba1 (o := .cells #[.int .i64 x.a, .int .i64 x.b, .int .i64 x.c, .int .i64 x.d, .int .i64 x.n] 55)))
          have FFx := Lib.hid (HR6.out.s.later (ba1 (o := .cells #[.int .i64 x.a, .int .i64 x.b, .int .i64 x.c, .int .i64 x.d, .int .i64 x.n] 55)))
          have hs4 := HR6.out.s.lt
          have HY : Hid (T[k]? = some (x)) := Lib.hid (by rw [HTk.out, HKq.out])
          obtain ⟨d0, d1, d2, d3, df, dl⟩ := HR6.out.s
          obtain ⟨f0, f1, f2, f3, ff, fl⟩ := HR6.out.f
          obtain ⟨CS, hCS⟩ : ∃ CS, CS = (T.take k).flatMap uc := ⟨_, rfl⟩
          rw [← hCS] at OOx
          have HCS := Lib.hid hCS
          have hp2 := hp1.out
          clear hCS
          go_wp2_with (at_builtin; refine wpList_append_own _ rfl (.tmp 92) (.tmp 94) 23 rfl (p + 1) 55 i0 _ 5 40 Tryz.underlying23 hi hz0 hz1 hz2 rfl (by decide) (.slice ao k cp) k CS rfl OOx.out ⟨Z.heap.size, 0, none⟩ 1 1 (uc (x)) rfl rfl (five_cells rfl (by simp [go_sem]) (by simp [go_sem]) (by simp [go_sem]) (by simp [go_sem]) (by simp [go_sem])) (five_one rfl) (by unfold maxLen; omega) (by omega) (by simp; omega) ?_; intro v5 w5 hown5 hgrow5 _; obtain ⟨g5, c5, rfl, hg5⟩ := owned5_some hown5 (by omega); clear d0 d1 d2 d3 df dl; obtain ⟨d0, d1, d2, d3, df, dl⟩ := FFx.out.grown hgrow5 (owned_ne OOx.out (by omega)))
          rw [HCS.out] at hown5
          have HR1 := Lib.hid (HR6.out.app hp2 (ba1 (o := .cells #[.int .i64 x.a, .int .i64 x.b, .int .i64 x.c, .int .i64 x.d, .int .i64 x.n] 55)) hgrow5 hown5 HY.out)
          clear hown5 hgrow5 d0 d1 d2 d3 df dl OOx FFx HCS hs4 f0 f1 f2 f3 ff fl hp2
          go_wp2
          exact ⟨⟨k + 1, _, by omega, by go_num, HR1⟩, by simp [intOf]; omega⟩
    · obtain rfl : k = L.length := by omega
      have ho := HR.out.own
      rw [hF'.out] at ho
      obtain ⟨g, kc, hgk, hgb⟩ := owned5_some ho HPOS.out
      simp only [Value.slice.injEq, true_and] at hgk
      obtain ⟨rfl, rfl⟩ := hgk
      obtain ⟨LB, hgb2⟩ := owned_LBox HM.out ho
      have HL := Lib.hid LB
      obtain ⟨r0, r1, r2, r3, rf, rl⟩ := HR.out.r
      obtain ⟨d0, d1, d2, d3, df, dl⟩ := HR.out.s
      obtain ⟨f0, f1, f2, f3, ff, fl⟩ := HR.out.f
      have hp2 := hp1.out
      have gX := grown4 (w := wr) (w.heap.size + 1) (.int .i64 a) (.int .i64 b) (.int .i64 c) (.slice (some ⟨g, 0, none⟩) L.length cp)
      have bX := HR.out.b.grown gX HR.out.b.size (fun j e => by cases e; omega)
      have LX : Hid (LBox _ g (cenL a b c ((1 : Nat) : Int) L)) := Lib.hid (by rw [HTT.out]; exact HL.out.grown gX (fun e => by have := Option.some.inj e; omega))
      have LY := Lib.hid (HL.out.grown gX (fun e => by have := Option.some.inj e; omega))
      have HBX := Lib.hid bX
      clear ho LB gX bX hgb hgb2 hp2 HR HL
      go_wp2
      refine bodyPost_ret (v := .tuple #[.agg #[.int .i64 a, .int .i64 b, .int .i64 c, .slice (some ⟨g, 0, none⟩) L.length cp], .int .i64 0]) ?_ rfl ⟨⟨g, cp, rfl, by first | exact LY.out | exact LX.out⟩, HBX.out⟩
      simp [results, Tryz.results17, go_sem, r0, r1, r2, r3, rl]
set_option maxHeartbeats 6400000 in
theorem refCenter_ok2 (a b c : Int) (bl off cap N : Nat) (L : List Q) (w : World) (hl : Lies w bl off L) (hF : Fl a b c L) (hN : (N : Int) = a * b * c) : Calls Tryz.prog 17 #[.agg #[.int .i64 a, .int .i64 b, .int .i64 c, .slice (some ⟨bl, off, none⟩) L.length cap], .int .i64 2] w fun e w' => RetTf a b c L.length (cenL a b c 2 L) e w' ∧ Below w.heap.size w w' := by
  have hlen := fld_len (Fl_fldR hF)
  have hn := hF.n
  have hz := hF.z
  obtain ⟨-, -, p3, -⟩ := mul_rng hz.a1 hz.a4 hz.b1 hz.b4 hz.c1 hz.c4
  have hp16 := hz.p
  have c1 := fun (W : World) (h : Lies W bl off L) => refValidateF_any a b c 0 (some ⟨bl, off, none⟩) cap L W (.inr ⟨bl, off, rfl, h⟩) (Fl_fldR hF) (by omega)
  have HV := Lib.hid (fun (i : Nat) (hi : i < L.length) => hF.v _ _ (lk_at (L := L) hi))
  have hDV := Lib.hid (fun (q : Nat) (hq : (q : Int) < a * b * c) => div_rng hz (s := (q : Int)) (by omega) hq)
  have hNL := Lib.hid hn
  have hl48 : L.length ≤ 48 := by omega
  have HPOS := Lib.hid (show 0 < L.length by omega)
  obtain ⟨a1, a4, b1, b4, c1', c4, -⟩ := hz
  obtain ⟨i0, hi, hz0, hz1, hz2⟩ := info_parts infoU
  have H := Lib.hid hl
  have HT := Lib.hid (fun (k : Nat) (hk : k < L.length) => cenL_get (a := a) (b := b) (c := c) (d := ((2 : Nat) : Int)) (L := L) hk)
  have hF' := Lib.hid (show (cenL a b c ((2 : Nat) : Int) L).take L.length = cenL a b c ((2 : Nat) : Int) L from List.take_of_length_le (by rw [cenL_len]; omega))
  have HM := Lib.hid (show L.length = (cenL a b c ((2 : Nat) : Int) L).length by rw [cenL_len])
  clear hl hF hN p3 hp16 hlen hn
  generalize hT : cenL a b c ((2 : Nat) : Int) L = T at *
  have HTT := Lib.hid hT
  clear hT
  go_enter Tryz.func17, Tryz.ntmps17
  have f0 : FW ((w.alloc (.cells #[.int .i64 a, .int .i64 b, .int .i64 c, .slice (some ⟨bl, off, none⟩) L.length cap] 25)).alloc (.cells #[.int .i64 0, .int .i64 0, .int .i64 0, .slice none 0 0] 25)) w.heap.size a b c (.slice (some ⟨bl, off, none⟩) L.length cap) := FW.n2a
  have g0 : FW ((w.alloc (.cells #[.int .i64 a, .int .i64 b, .int .i64 c, .slice (some ⟨bl, off, none⟩) L.length cap] 25)).alloc (.cells #[.int .i64 0, .int .i64 0, .int .i64 0, .slice none 0 0] 25)) (w.heap.size + 1) 0 0 0 (.slice none 0 0) := FW.n2b
  have F0 := Lib.hid f0
  have G0 := Lib.hid g0
  clear f0 g0
  go_wp2_with (fail)
  refine (c1 _ (H.out.later ba2)).mono ?_
  rintro e w1 ⟨rfl, hw1⟩
  have F1 := Lib.hid ((F0.out.later hw1).later (ba1 (o := .cells #[.int .i64 a, .int .i64 b, .int .i64 c, .slice none 0 0] 25)))
  have G1 := Lib.hid ((G0.out.later hw1).later (ba1 (o := .cells #[.int .i64 a, .int .i64 b, .int .i64 c, .slice none 0 0] 25)))
  have b1' := bel2 hw1
  have B1 := Lib.hid (b1'.trans ((ba1 (o := .cells #[.int .i64 a, .int .i64 b, .int .i64 c, .slice none 0 0] 25)).mono b1'.size))
  have S1 : Hid (FW (w1.alloc (.cells #[.int .i64 a, .int .i64 b, .int .i64 c, .slice none 0 0] 25)) w1.heap.size a b c (.slice none 0 0)) := Lib.hid ⟨by simp [go_sem], by simp [go_sem], by simp [go_sem], by simp [go_sem], fun j => by simp [go_sem], by simp⟩
  have hp1 := Lib.hid ((G0.out.later hw1).lt)
  obtain ⟨f0, f1, f2, f3, ff, fl⟩ := F0.out.later hw1
  have HR0 : Hid (RG w w1.heap.size (.slice (some ⟨bl, off, none⟩) L.length cap) a b c T (w1.alloc (.cells #[.int .i64 a, .int .i64 b, .int .i64 c, .slice none 0 0] 25)) (.slice none 0 0) 0) := Lib.hid ⟨World.ownsRow_nil _ _ _ _, S1.out, F1.out, G1.out, B1.out⟩
  clear hw1 F0 G0 F1 G1 B1 b1' S1 c1
  go_wp2
  clear f0 f1 f2 f3 ff fl
  generalize w1.alloc (.cells #[.int .i64 a, .int .i64 b, .int .i64 c, .slice none 0 0] 25) = W1 at *
  generalize w1.heap.size = p at *
  go_loopw [8] (fun q wr => ∃ (k : Nat) (v : Value), k ≤ L.length ∧ q = .int .i64 k ∧ Hid (RG w p (.slice (some ⟨bl, off, none⟩) L.length cap) a b c T wr v k)) (fun q _ => L.length - (intOf q).toNat)
  case atStart => exact ⟨0, _, by omega, rfl, HR0⟩
  case round =>
    obtain ⟨k, v0, hk, rfl, HR⟩ := hrel
    clear HR0
    obtain ⟨ao, cp, rfl⟩ := owned5_form HR.out.own
    by_cases hlt : k < L.length
    · obtain ⟨hxV, hx5⟩ := HV.out k hlt
      have hTk := HT.out k hlt
      obtain ⟨l0, l1, l2, l3, l4⟩ := (H.out.later HR.out.b) _ _ (lk_at (L := L) hlt)
      have lb1 := World.block_lt_of_cell? _ _ l0
      obtain ⟨nw1, nw2, nw3, nw4⟩ := neg_wraps hxV hx5
      have hKq : cenK a b c ((2 : Nat) : Int) L k = sgC (cenB a b c ((2 : Nat) : Int) (k : Int)) (lk L (k : Int)) := rfl
      generalize lk L (k : Int) = x at *
      obtain ⟨q, hq⟩ : ∃ q : Nat, k / 3 = q := ⟨_, rfl⟩
      have hqa : (q : Int) < a * b * c := by have := hNL.out; omega
      obtain ⟨d0', d1', d2', d3', d4', d5', d6', d7', d8', d9'⟩ := hDV.out q hqa
      have a0 : (a == 0) = false := by simp; omega
      have b0 : (b == 0) = false := by simp; omega
      have q16 : (q : Int) < 16 := by omega
      have e0 : IntKind.i64.wrap ((k : Int) / 3) = (q : Int) := by
        rw [show (k : Int) / 3 = (q : Int) by omega]
        exact IntWalk.i64_in _ (by omega)
      have e0' : (k : Int) / 3 = (q : Int) := by omega
      have e1 : (q : Int).tmod a = (q : Int) % a := Int.tmod_eq_emod_of_nonneg (by omega)
      have e2 : IntKind.i64.wrap ((q : Int).tdiv a) = (q : Int) / a := IntWalk.i64_quo _ _ ⟨by omega, by omega, a1⟩
      have e3 : ((q : Int) / a).tmod b = (q : Int) / a % b := Int.tmod_eq_emod_of_nonneg d2'
      have e4 : IntKind.i64.wrap (((q : Int) / a).tdiv b) = (q : Int) / a / b := IntWalk.i64_quo _ _ ⟨d2', by omega, b1⟩
      have e5 : IntKind.i64.wrap ((q : Int) % a) = (q : Int) % a := IntWalk.i64_in _ (by have := Int.emod_nonneg (q : Int) (show a ≠ 0 by omega); have := Int.emod_lt_of_pos (q : Int) (show 0 < a by omega); omega)
      have e6 : IntKind.i64.wrap ((q : Int) / a % b) = (q : Int) / a % b := IntWalk.i64_in _ (by have := Int.emod_nonneg ((q : Int) / a) (show b ≠ 0 by omega); have := Int.emod_lt_of_pos ((q : Int) / a) (show 0 < b by omega); omega)
      have ik : (k : Int) < (L.length : Int) := by omega
      obtain ⟨f0, f1, f2, f3, ff, fl⟩ := HR.out.f
      have U5 := Lib.hid (box_U (w := wr) (T := 55) (x := x))
      have HR5 := Lib.hid (HR.out.later (ba1 (o := .cells #[.int .i64 x.a, .int .i64 x.b, .int .i64 x.c, .int .i64 x.d, .int .i64 x.n] 55)))
      have hpX := HR.out.s.lt
      go_wp2
      have hne := HR.out.own.lt
      have HNE : Hid ((Value.slice ao k cp).ownBlock ≠ some wr.heap.size) := Lib.hid (fun e => Nat.lt_irrefl _ (hne _ e).2)
      clear hne f0 f1 f2 f3 ff fl l0 l1 l2 l3 l4 lb1 HR
      have HTk := Lib.hid hTk
      clear hTk
      have hXs : wr.heap.size < (wr.alloc (.cells #[.int .i64 x.a, .int .i64 x.b, .int .i64 x.c, .int .i64 x.d, .int .i64 x.n] 55)).heap.size := by simp
      generalize wr.alloc (.cells #[.int .i64 x.a, .int .i64 x.b, .int .i64 x.c, .int .i64 x.d, .int .i64 x.n] 55) = X1 at *
      generalize wr.heap.size = ub at *
      obtain ⟨f0, f1, f2, f3, ff, fl⟩ := HR5.out.f
      apply Made.region_one 27 (.cells #[.int .i64 0, .int .i64 0, .int .i64 0] 22) (fun g => .pointer (some ⟨g, 0, none⟩)) (some 10) (by kernel_rfl) (by kernel_rfl) (by kernel_rfl)
      · intro B hB
        have kc := @Tail.cell_re
        have hcB := Tail.cells hB
        have zB0 := Nat.lt_of_lt_of_le fl hB.size
        simp only [List.take_succ_cons, List.take_zero]
        repeat (go_big_quiet_step (fail))
        exact wpQuiet_nil rfl
      · refine ⟨_, rfl, rfl, fun W => ⟨rfl, ?_⟩⟩
        simp [execOp, go_sem]
      · intro g W hg hW hx
        show wpList _ _ _ (List.drop 28 _) _ _
        simp only [List.drop_succ_cons, List.drop_zero]
        have y0 := Wide.cell_at hx 0 _ rfl
        have y1 := Wide.cell_at hx 1 _ rfl
        have y2 := Wide.cell_at hx 2 _ rfl
        have hgl : g < W.heap.size := (Array.getElem?_eq_some_iff.1 hx).1
        have hfr : ∀ j, W.frozen? ⟨g, j, none⟩ = false := fun j => by simp [World.frozen?, hx]
        have b6 := ((hW.setCell (p := ⟨g, 0, none⟩) hg (.int .i64 ((q : Int) % a))).setCell (p := ⟨g, 1, none⟩) hg (.int .i64 ((q : Int) / a % b))).setCell (p := ⟨g, 2, none⟩) hg (.int .i64 ((q : Int) / a / b))
        have P6 := Lib.hid ((((⟨y0, y1, y2, hfr, hgl⟩ : C3 W g (.int .i64 0) (.int .i64 0) (.int .i64 0)).put0 (.int .i64 ((q : Int) % a))).put1 (.int .i64 ((q : Int) / a % b))).put2 (.int .i64 ((q : Int) / a / b)))
        have HR6 := Lib.hid (HR5.out.later b6)
        have U6 := Lib.hid (U5.out.later b6)
        clear b6
        go_upto_region 12 with (fail)
        clear y0 y1 y2 hgl hfr hx hW HR5 U5 f0 f1 f2 f3 ff fl hg
        generalize ((W.setCell ⟨g, 0, none⟩ (.int .i64 ((q : Int) % a))).setCell ⟨g, 1, none⟩ (.int .i64 ((q : Int) / a % b))).setCell ⟨g, 2, none⟩ (.int .i64 ((q : Int) / a / b)) = Z at *
        obtain ⟨k0, k1, k2, kf, kl⟩ := P6.out
        obtain ⟨⟨u0, u1', u2, u3, u4⟩, uf, ul⟩ := one_boxI U6.out
        have hcB : cenB a b c ((2 : Nat) : Int) (k : Int) = (decide ((k : Int) % 3 = ((2 : Nat) : Int)) && decide ((q : Int) / a / b = 0)) := by
          unfold cenB
          rw [e0']
          rfl
        obtain ⟨m, hm⟩ : ∃ m : Nat, k % 3 = m := ⟨_, rfl⟩
        have em : (k : Int).tmod 3 = (m : Int) := by rw [Int.tmod_eq_emod_of_nonneg (by omega)]; omega
        have em' : (k : Int) % 3 = (m : Int) := by omega
        rw [hcB, em'] at hKq
        clear hcB e0 e0' e1 e2 e3 e4 e5 e6 a0 b0 d0' d1' d2' d3' d4' d5' d6' d7' d8' d9' hq hm hqa q16
        generalize hp0 : (q : Int) % a = p0 at *
        generalize hp1' : (q : Int) / a % b = p1 at *
        generalize hp2' : (q : Int) / a / b = p2 at *
        clear hp0 hp1' hp2'
        by_cases hmD : m = 2
        · subst hmD
          by_cases hpl : p2 = 0
          · subst hpl
            have HKq : Hid (cenK a b c ((2 : Nat) : Int) L k = neg x) := Lib.hid (by rw [hKq]; rfl)
            have GU := grown_setCells ub (uc (neg x)) 0 Z
            have HR7 := Lib.hid (HR6.out.far GU (Nat.lt_of_lt_of_le hpX (Nat.le_refl _)) hp1.out HNE.out)
            have U7 : Hid (LBox (Z.setCells ub 0 (uc (neg x))) ub [neg x]) := Lib.hid (U6.out.put 0 (by simp) (neg x))
            clear GU hKq
            go_upto_region 14 with (fail)
            clear u0 u1' u2 u3 u4 uf ul k0 k1 k2 kf kl nw1 nw2 nw3 nw4 U6 HR6 P6
            change Hid (LBox (((((Z.setCell ⟨ub, 0, none⟩ (.int .i64 (-x.a))).setCell ⟨ub, 1, none⟩ (.int .i64 (-x.b))).setCell ⟨ub, 2, none⟩ (.int .i64 (-x.c))).setCell ⟨ub, 3, none⟩ (.int .i64 (-x.d))).setCell ⟨ub, 4, none⟩ (.int .i64 x.n)) ub [neg x]) at U7
            change Hid (RG w p (.slice (some ⟨bl, off, none⟩) L.length cap) a b c T (((((Z.setCell ⟨ub, 0, none⟩ (.int .i64 (-x.a))).setCell ⟨ub, 1, none⟩ (.int .i64 (-x.b))).setCell ⟨ub, 2, none⟩ (.int .i64 (-x.c))).setCell ⟨ub, 3, none⟩ (.int .i64 (-x.d))).setCell ⟨ub, 4, none⟩ (.int .i64 x.n)) (.slice ao k cp) k) at HR7
            generalize ((((Z.setCell ⟨ub, 0, none⟩ (.int .i64 (-x.a))).setCell ⟨ub, 1, none⟩ (.int .i64 (-x.b))).setCell ⟨ub, 2, none⟩ (.int .i64 (-x.c))).setCell ⟨ub, 3, none⟩ (.int .i64 (-x.d))).setCell ⟨ub, 4, none⟩ (.int .i64 x.n) = Z2 at *
            generalize neg x = yy at *
            obtain ⟨⟨u0, u1', u2, u3, u4⟩, uf, ul⟩ := one_boxI U7.out
            have OOx := Lib.hid (owned_later HR7.out.own (ba1 (o := .cells #[.int .i64 yy.a, .int .i64 yy.b, .int .i64 yy.c, .int .i64 yy.d, .int .i64 yy.n] 55)))
            have FFx := Lib.hid (HR7.out.s.later (ba1 (o := .cells #[.int .i64 yy.a, .int .i64 yy.b, .int .i64 yy.c, .int .i64 yy.d, .int .i64 yy.n] 55)))
            have hs4 := HR7.out.s.lt
            have HY : Hid (T[k]? = some (yy)) := Lib.hid (by rw [HTk.out, HKq.out])
            obtain ⟨d0, d1, d2, d3, df, dl⟩ := HR7.out.s
            obtain ⟨f0, f1, f2, f3, ff, fl⟩ := HR7.out.f
            obtain ⟨CS, hCS⟩ : ∃ CS, CS = (T.take k).flatMap uc := ⟨_, rfl⟩
            rw [← hCS] at OOx
            have HCS := Lib.hid hCS
            have hp2 := hp1.out
            clear hCS
            go_wp2_with (at_builtin; refine wpList_append_own _ rfl (.tmp 92) (.tmp 94) 23 rfl (p + 1) 55 i0 _ 5 40 Tryz.underlying23 hi hz0 hz1 hz2 rfl (by decide) (.slice ao k cp) k CS rfl OOx.out ⟨Z2.heap.size, 0, none⟩ 1 1 (uc (yy)) rfl rfl (five_cells rfl (by simp [go_sem]) (by simp [go_sem]) (by simp [go_sem]) (by simp [go_sem]) (by simp [go_sem])) (five_one rfl) (by unfold maxLen; omega) (by omega) (by simp; omega) ?_; intro v5 w5 hown5 hgrow5 _; obtain ⟨g5, c5, rfl, hg5⟩ := owned5_some hown5 (by omega); clear d0 d1 d2 d3 df dl; obtain ⟨d0, d1, d2, d3, df, dl⟩ := FFx.out.grown hgrow5 (owned_ne OOx.out (by omega)))
            rw [HCS.out] at hown5
            have HR1 := Lib.hid (HR7.out.app hp2 (ba1 (o := .cells #[.int .i64 yy.a, .int .i64 yy.b, .int .i64 yy.c, .int .i64 yy.d, .int .i64 yy.n] 55)) hgrow5 hown5 HY.out)
            clear hown5 hgrow5 d0 d1 d2 d3 df dl OOx FFx HCS hs4 f0 f1 f2 f3 ff fl hp2
            go_wp2
            exact ⟨⟨k + 1, _, by omega, by go_num, HR1⟩, by simp [intOf]; omega⟩
          · have HKq : Hid (cenK a b c ((2 : Nat) : Int) L k = x) := Lib.hid (by rw [hKq, decide_eq_false hpl, Bool.and_false]; rfl)
            have t2 : (p2 == 0) = false := by simpa using hpl
            clear hKq hpl
            have OOx := Lib.hid (owned_later HR6.out.own (ba1 (o := .cells #[.int .i64 x.a, .int .i64 x.b, .int .i64 x.c, .int .i64 x.d, .int .i64 x.n] 55)))
            have FFx := Lib.hid (HR6.out.s.later (ba1 (o := .cells #[.int .i64 x.a, .int .i64 x.b, .int .i64 x.c, .int .i64 x.d, .int .i64 x.n] 55)))
            have hs4 := HR6.out.s.lt
            have HY : Hid (T[k]? = some (x)) := Lib.hid (by rw [HTk.out, HKq.out])
            obtain ⟨d0, d1, d2, d3, df, dl⟩ := HR6.out.s
            obtain ⟨f0, f1, f2, f3, ff, fl⟩ := HR6.out.f
            obtain ⟨CS, hCS⟩ : ∃ CS, CS = (T.take k).flatMap uc := ⟨_, rfl⟩
            rw [← hCS] at OOx
            have HCS := Lib.hid hCS
            have hp2 := hp1.out
            clear hCS
            go_wp2_with (at_builtin; refine wpList_append_own _ rfl (.tmp 92) (.tmp 94) 23 rfl (p + 1) 55 i0 _ 5 40 Tryz.underlying23 hi hz0 hz1 hz2 rfl (by decide) (.slice ao k cp) k CS rfl OOx.out ⟨Z.heap.size, 0, none⟩ 1 1 (uc (x)) rfl rfl (five_cells rfl (by simp [go_sem]) (by simp [go_sem]) (by simp [go_sem]) (by simp [go_sem]) (by simp [go_sem])) (five_one rfl) (by unfold maxLen; omega) (by omega) (by simp; omega) ?_; intro v5 w5 hown5 hgrow5 _; obtain ⟨g5, c5, rfl, hg5⟩ := owned5_some hown5 (by omega); clear d0 d1 d2 d3 df dl; obtain ⟨d0, d1, d2, d3, df, dl⟩ := FFx.out.grown hgrow5 (owned_ne OOx.out (by omega)))
            rw [HCS.out] at hown5
            have HR1 := Lib.hid (HR6.out.app hp2 (ba1 (o := .cells #[.int .i64 x.a, .int .i64 x.b, .int .i64 x.c, .int .i64 x.d, .int .i64 x.n] 55)) hgrow5 hown5 HY.out)
            clear hown5 hgrow5 d0 d1 d2 d3 df dl OOx FFx HCS hs4 f0 f1 f2 f3 ff fl hp2
            go_wp2
            exact ⟨⟨k + 1, _, by omega, by go_num, HR1⟩, by simp [intOf]; omega⟩
        · have HKq : Hid (cenK a b c ((2 : Nat) : Int) L k = x) := Lib.hid (by rw [hKq, decide_eq_false (show ¬ ((m : Int) = ((2 : Nat) : Int)) by omega), Bool.false_and]; rfl)
          have t1 : ((m : Int) == 2) = false := by simp; omega
          clear hKq hmD
          have OOx := Lib.hid (owned_later HR6.out.own (ba1 (o := .cells #[.int .i64 x.a, .int .i64 x.b, .int .i64 x.c, .int .i64 x.d, .int .i64 x.n] 55)))
          have FFx := Lib.hid (HR6.out.s.later (ba1 (o := .cells #[.int .i64 x.a, .int .i64 x.b, .int .i64 x.c, .int .i64 x.d, .int .i64 x.n] 55)))
          have hs4 := HR6.out.s.lt
          have HY : Hid (T[k]? = some (x)) := Lib.hid (by rw [HTk.out, HKq.out])
          obtain ⟨d0, d1, d2, d3, df, dl⟩ := HR6.out.s
          obtain ⟨f0, f1, f2, f3, ff, fl⟩ := HR6.out.f
          obtain ⟨CS, hCS⟩ : ∃ CS, CS = (T.take k).flatMap uc := ⟨_, rfl⟩
          rw [← hCS] at OOx
          have HCS := Lib.hid hCS
          have hp2 := hp1.out
          clear hCS
          go_wp2_with (at_builtin; refine wpList_append_own _ rfl (.tmp 92) (.tmp 94) 23 rfl (p + 1) 55 i0 _ 5 40 Tryz.underlying23 hi hz0 hz1 hz2 rfl (by decide) (.slice ao k cp) k CS rfl OOx.out ⟨Z.heap.size, 0, none⟩ 1 1 (uc (x)) rfl rfl (five_cells rfl (by simp [go_sem]) (by simp [go_sem]) (by simp [go_sem]) (by simp [go_sem]) (by simp [go_sem])) (five_one rfl) (by unfold maxLen; omega) (by omega) (by simp; omega) ?_; intro v5 w5 hown5 hgrow5 _; obtain ⟨g5, c5, rfl, hg5⟩ := owned5_some hown5 (by omega); clear d0 d1 d2 d3 df dl; obtain ⟨d0, d1, d2, d3, df, dl⟩ := FFx.out.grown hgrow5 (owned_ne OOx.out (by omega)))
          rw [HCS.out] at hown5
          have HR1 := Lib.hid (HR6.out.app hp2 (ba1 (o := .cells #[.int .i64 x.a, .int .i64 x.b, .int .i64 x.c, .int .i64 x.d, .int .i64 x.n] 55)) hgrow5 hown5 HY.out)
          clear hown5 hgrow5 d0 d1 d2 d3 df dl OOx FFx HCS hs4 f0 f1 f2 f3 ff fl hp2
          go_wp2
          exact ⟨⟨k + 1, _, by omega, by go_num, HR1⟩, by simp [intOf]; omega⟩
    · obtain rfl : k = L.length := by omega
      have ho := HR.out.own
      rw [hF'.out] at ho
      obtain ⟨g, kc, hgk, hgb⟩ := owned5_some ho HPOS.out
      simp only [Value.slice.injEq, true_and] at hgk
      obtain ⟨rfl, rfl⟩ := hgk
      obtain ⟨LB, hgb2⟩ := owned_LBox HM.out ho
      have HL := Lib.hid LB
      obtain ⟨r0, r1, r2, r3, rf, rl⟩ := HR.out.r
      obtain ⟨d0, d1, d2, d3, df, dl⟩ := HR.out.s
      obtain ⟨f0, f1, f2, f3, ff, fl⟩ := HR.out.f
      have hp2 := hp1.out
      have gX := grown4 (w := wr) (w.heap.size + 1) (.int .i64 a) (.int .i64 b) (.int .i64 c) (.slice (some ⟨g, 0, none⟩) L.length cp)
      have bX := HR.out.b.grown gX HR.out.b.size (fun j e => by cases e; omega)
      have LX : Hid (LBox _ g (cenL a b c ((2 : Nat) : Int) L)) := Lib.hid (by rw [HTT.out]; exact HL.out.grown gX (fun e => by have := Option.some.inj e; omega))
      have LY := Lib.hid (HL.out.grown gX (fun e => by have := Option.some.inj e; omega))
      have HBX := Lib.hid bX
      clear ho LB gX bX hgb hgb2 hp2 HR HL
      go_wp2
      refine bodyPost_ret (v := .tuple #[.agg #[.int .i64 a, .int .i64 b, .int .i64 c, .slice (some ⟨g, 0, none⟩) L.length cp], .int .i64 0]) ?_ rfl ⟨⟨g, cp, rfl, by first | exact LY.out | exact LX.out⟩, HBX.out⟩
      simp [results, Tryz.results17, go_sem, r0, r1, r2, r3, rl]
set_option maxHeartbeats 1600000 in
theorem refCenter_bad (a b c d r : Int) (ao : Option Addr) (cap : Nat) (L : List Q) (w : World) (h : LiesO w ao L) (hr : fldR a b c L r) (h0 : r ≠ 0) (hlen : L.length ≤ 1000000) : Calls Tryz.prog 17 #[.agg #[.int .i64 a, .int .i64 b, .int .i64 c, .slice ao L.length cap], .int .i64 d] w fun e w' => e = .returned (.tuple #[.agg #[.int .i64 0, .int .i64 0, .int .i64 0, .slice none 0 0], .int .i64 r]) ∧ Below w.heap.size w w' := by
  have H := Lib.hid h
  have c1 := fun (W : World) (h : LiesO W ao L) => refValidateF_any a b c r ao cap L W h hr hlen
  have h0' : (r != 0) = true := by simpa using h0
  clear h hr h0
  go_enter Tryz.func17, Tryz.ntmps17
  go_wp2_with (fail)
  refine (c1 _ (H.out.later ba2)).mono ?_
  rintro e w1 ⟨rfl, hw1⟩
  have hc1 := Tail.cells hw1
  have zw10 := Nat.lt_of_lt_of_le (n := w.heap.size) (by simp <;> omega) hw1.size; have zw11 := Nat.lt_of_lt_of_le (n := w.heap.size + 1) (by simp <;> omega) hw1.size
  go_wp2
  refine bodyPost_ret (v := .tuple #[.agg #[.int .i64 0, .int .i64 0, .int .i64 0, .slice none 0 0], .int .i64 r]) ?_ rfl ⟨rfl, ?_⟩
  · simp [results, Tryz.results17, go_sem, hc1, zw10, zw11]
  · repeat (first | (with_reducible exact Below.refl _ _) | (with_reducible refine Below.setCell ?_ ?_ _) | (with_reducible refine Below.drew ?_) | (with_reducible refine Below.alloc ?_ ?_ _) | (with_reducible refine Below.trans ?_ (Below.mono hw1 ?_)) | (with_reducible exact hw1.size) | omega | (simp <;> omega) | (simp <;> (have s := hw1.size; omega)) | (have s0 := hw1.size; (try simp at s0); (try simp); omega))
set_option maxHeartbeats 1600000 in
theorem refCenter_arg (a b c d : Int) (ao : Option Addr) (cap : Nat) (L : List Q) (w : World) (h : LiesO w ao L) (hr : fldR a b c L 0) (hd : ¬ (0 ≤ d ∧ d ≤ 2)) (hlen : L.length ≤ 1000000) : Calls Tryz.prog 17 #[.agg #[.int .i64 a, .int .i64 b, .int .i64 c, .slice ao L.length cap], .int .i64 d] w fun e w' => e = .returned (.tuple #[.agg #[.int .i64 0, .int .i64 0, .int .i64 0, .slice none 0 0], .int .i64 1]) ∧ Below w.heap.size w w' := by
  have H := Lib.hid h
  have c1 := fun (W : World) (h : LiesO W ao L) => refValidateF_any a b c 0 ao cap L W h hr hlen
  clear h hr
  by_cases hn : d < 0
  · clear hd
    go_enter Tryz.func17, Tryz.ntmps17
    go_wp2_with (fail)
    refine (c1 _ (H.out.later ba2)).mono ?_
    rintro e w1 ⟨rfl, hw1⟩
    have hc1 := Tail.cells hw1
    have zw10 := Nat.lt_of_lt_of_le (n := w.heap.size) (by simp <;> omega) hw1.size; have zw11 := Nat.lt_of_lt_of_le (n := w.heap.size + 1) (by simp <;> omega) hw1.size
    go_wp2
    refine bodyPost_ret (v := .tuple #[.agg #[.int .i64 0, .int .i64 0, .int .i64 0, .slice none 0 0], .int .i64 1]) ?_ rfl ⟨rfl, ?_⟩
    · simp [results, Tryz.results17, go_sem, hc1, zw10, zw11]
    · repeat (first | (with_reducible exact Below.refl _ _) | (with_reducible refine Below.setCell ?_ ?_ _) | (with_reducible refine Below.drew ?_) | (with_reducible refine Below.alloc ?_ ?_ _) | (with_reducible refine Below.trans ?_ (Below.mono hw1 ?_)) | (with_reducible exact hw1.size) | omega | (simp <;> omega) | (simp <;> (have s := hw1.size; omega)) | (have s0 := hw1.size; (try simp at s0); (try simp); omega))
  · have h3 : 3 ≤ d := by omega
    clear hd
    go_enter Tryz.func17, Tryz.ntmps17
    go_wp2_with (fail)
    refine (c1 _ (H.out.later ba2)).mono ?_
    rintro e w1 ⟨rfl, hw1⟩
    have hc1 := Tail.cells hw1
    have zw10 := Nat.lt_of_lt_of_le (n := w.heap.size) (by simp <;> omega) hw1.size; have zw11 := Nat.lt_of_lt_of_le (n := w.heap.size + 1) (by simp <;> omega) hw1.size
    go_wp2
    refine bodyPost_ret (v := .tuple #[.agg #[.int .i64 0, .int .i64 0, .int .i64 0, .slice none 0 0], .int .i64 1]) ?_ rfl ⟨rfl, ?_⟩
    · simp [results, Tryz.results17, go_sem, hc1, zw10, zw11]
    · repeat (first | (with_reducible exact Below.refl _ _) | (with_reducible refine Below.setCell ?_ ?_ _) | (with_reducible refine Below.drew ?_) | (with_reducible refine Below.alloc ?_ ?_ _) | (with_reducible refine Below.trans ?_ (Below.mono hw1 ?_)) | (with_reducible exact hw1.size) | omega | (simp <;> omega) | (simp <;> (have s := hw1.size; omega)) | (have s0 := hw1.size; (try simp at s0); (try simp); omega))
end Go.Proofs.YtkgihmhehkaocaaGreat
