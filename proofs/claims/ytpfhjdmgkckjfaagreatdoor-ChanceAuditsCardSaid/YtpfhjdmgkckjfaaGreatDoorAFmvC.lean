/- The first moves of a sweep, as the program makes them.
Conditions: those written at the theorem. -/
import Derived.Test.YtpfhjdmgkckjfaaGreatDoorAOpenMv
import Derived.Test.YtpfhjdmgkckjfaaGreatDoorATabB
import Derived.Deep.CutRange
namespace Go.Proofs.YtpfhjdmgkckjfaaGreatDoor
set_option linter.unusedVariables false
set_option linter.unusedSimpArgs false
set_option maxRecDepth 1000000
open Go.RowKit
open Um Tm Cm

set_option maxHeartbeats 25600000 in
theorem firstMoves_ok (a b c p0 p1 p2 p3 p4 s : Int) (bl off cap n : Nat) (L : List Q) (w : World) (hm : Lies w bl off L) (hst : StA w) (hI : SwI a b c L s L.length) (hWO : WOk [p0, p1, p2, p3, p4]) (hn : n ≤ L.length) :
    Calls Tryz.prog 64 #[.agg #[.int .i64 a, .int .i64 b, .int .i64 c, .slice (some ⟨bl, off, none⟩) L.length cap], .agg #[.int .i64 p0, .int .i64 p1, .int .i64 p2, .int .i64 p3, .int .i64 p4], .int .i64 s, .int .i64 n] w fun e w' => (∃ (g gk : Nat) (mo : Option Addr) (mk : Nat), e = .returned (.tuple #[.agg #[.int .i64 a, .int .i64 b, .int .i64 c, .slice (some ⟨g, 0, none⟩) L.length gk], .int .i64 ((swS a b c [p0, p1, p2, p3, p4] L s n)).2, .slice mo n mk, .int .i64 0]) ∧ LBox w' g ((swS a b c [p0, p1, p2, p3, p4] L s n)).1 ∧ w.heap.size ≤ g ∧ LiesOI w' mo ((mvs a b c [p0, p1, p2, p3, p4] L s n)) ∧ (∀ o f : Nat, mo = some ⟨o, f, none⟩ → w.heap.size ≤ o)) ∧ Below w.heap.size w w' := by
  obtain ⟨i0, hi, hz0, hz1, hz2⟩ := info_parts infoMv
  have hL48 := hI.f.le
  have hn3 : 3 ≤ L.length := by have := hI.f.n; have h1 := hI.f.z.p; have := hI.f.z.a1; have := hI.f.z.b1; have := hI.f.z.c1; have : 1 ≤ a * b * c := Int.mul_pos (Int.mul_pos (by omega) (by omega)) (by omega); omega
  have mk : ∀ W : World, (Instr.makeSlice 50 (.int .i64 0) (.int .i64 n)).run Tryz.prog W = .ok (.slice (some ⟨W.heap.size, 0, none⟩) 0 n) (W.alloc (.cells (madeCells #[.int .i64 0, .int .i64 0, .int .i64 0, .int .i64 0] (n * 4)) 106)) := fun W => by
    have := run_make (P := Tryz.prog) W 50 106 i0 _ Tryz.underlying50 hi hz0 .i64 .i64 0 n (by omega) (by omega) (by rw [hz2]; omega) (by omega)
    rw [this, hz1]
    rfl
  have MS := Lib.hid (fun (W : World) (base : Nat) => World.ownsRow_made (base := base) (e := 106) (size := 4) W (madeCells #[.int .i64 0, .int .i64 0, .int .i64 0, .int .i64 0] (n * 4)) n)
  have HI := Lib.hid (swI_all hI hWO)
  have HSTEP := Lib.hid (fun (P : List Q) (q : Int) (k : Nat) (h : SwI a b c P q L.length) (hk : k < L.length) => swI_step h hWO hk)
  have HDM := Lib.hid (fun (P : List Q) (q d : Int) (B g gk k j v : Nat) (W : World) h1 h2 h3 h4 h5 h6 h7 h8 h9 h10 h11 h12 => drawnMove_ok a b c p0 p1 p2 p3 p4 k q d B g 0 gk k j v P W h1 h2 h3 hWO rfl h4 h5 h6 h7 h8 h9 h10 h11 h12)
  have HMS := Lib.hid (mvs_succ a b c [p0, p1, p2, p3, p4] L s)
  have HML := Lib.hid (mvs_len a b c [p0, p1, p2, p3, p4] L s)
  have cC := fun (W : World) (k : Lies W bl off L) => copied5_any a b c bl off cap L W k (by omega) (by omega)
  have hmf : ∀ (fn : Fn) (first cap : Array Value) (w : World), (Instr.makeFunc fn first cap).run Tryz.prog w = .ok (.func fn first cap) w := fun _ _ _ _ => rfl
  have H0 := Lib.hid hm
  have S0 := Lib.hid hst
  have E3 : C5 ((((w.alloc (.cells #[.int .i64 a, .int .i64 b, .int .i64 c, .slice (some ⟨bl, off, none⟩) L.length cap] 25)).alloc (.cells #[.int .i64 p0, .int .i64 p1, .int .i64 p2, .int .i64 p3, .int .i64 p4] 26)).alloc (.cells #[.int .i64 0, .int .i64 0, .int .i64 0, .slice none 0 0] 25)).alloc (.cells #[.int .i64 s] 108)) (w.heap.size + 1) (.int .i64 p0) (.int .i64 p1) (.int .i64 p2) (.int .i64 p3) (.int .i64 p4) := C5.n3b.later ba1
  have Z3 : FW ((((w.alloc (.cells #[.int .i64 a, .int .i64 b, .int .i64 c, .slice (some ⟨bl, off, none⟩) L.length cap] 25)).alloc (.cells #[.int .i64 p0, .int .i64 p1, .int .i64 p2, .int .i64 p3, .int .i64 p4] 26)).alloc (.cells #[.int .i64 0, .int .i64 0, .int .i64 0, .slice none 0 0] 25)).alloc (.cells #[.int .i64 s] 108)) (w.heap.size + 1 + 1) 0 0 0 (.slice none 0 0) := FW.n3c.later ba1
  have G3 : GBox ((((w.alloc (.cells #[.int .i64 a, .int .i64 b, .int .i64 c, .slice (some ⟨bl, off, none⟩) L.length cap] 25)).alloc (.cells #[.int .i64 p0, .int .i64 p1, .int .i64 p2, .int .i64 p3, .int .i64 p4] 26)).alloc (.cells #[.int .i64 0, .int .i64 0, .int .i64 0, .slice none 0 0] 25)).alloc (.cells #[.int .i64 s] 108)) (w.heap.size + 1 + 1 + 1) s := ⟨by simp [go_sem], by simp [go_sem], by simp⟩
  have B3 : Below w.heap.size w ((((w.alloc (.cells #[.int .i64 a, .int .i64 b, .int .i64 c, .slice (some ⟨bl, off, none⟩) L.length cap] 25)).alloc (.cells #[.int .i64 p0, .int .i64 p1, .int .i64 p2, .int .i64 p3, .int .i64 p4] 26)).alloc (.cells #[.int .i64 0, .int .i64 0, .int .i64 0, .slice none 0 0] 25)).alloc (.cells #[.int .i64 s] 108)) := ba3.trans (ba1.mono (by simp; omega))
  have E4 := Lib.hid E3
  have Z4 := Lib.hid Z3
  have G4 := Lib.hid G3
  have B4 := Lib.hid B3
  clear hm hst hI hWO E3 Z3 G3 B3
  go_enter Tryz.func64, Tryz.ntmps64
  go_wp2_with (fail)
  refine (cC _ (H0.out.later B4.out)).mono ?_
  rintro e w1 ⟨⟨g, gk, rfl, hG, hge⟩, hw1⟩
  have hgg : w.heap.size + 1 + 1 + 1 < g := Nat.lt_of_lt_of_le G4.out.lt hge
  have hb1 := B4.out.trans (hw1.mono B4.out.size)
  have SB0 : SwB w (w1.alloc (.cells #[.int .i64 a, .int .i64 b, .int .i64 c, .slice (some ⟨g, 0, none⟩) L.length gk] 25)) a b c p0 p1 p2 p3 p4 (w.heap.size + 1 + 1 + 1) w1.heap.size g gk L.length L s := ⟨(E4.out.later hw1).later ba1, (Z4.out.later hw1).later ba1, (G4.out.later hw1).later ba1, FW.n1, hG.later ba1, hb1.trans (ba1.mono hb1.size), by omega, hgg, hG.lt⟩
  have SB1 := Lib.hid (SB0.later (ba1 (o := .cells (madeCells #[.int .i64 0, .int .i64 0, .int .i64 0, .int .i64 0] (n * 4)) 106)))
  have o0 := MS.out (w1.alloc (.cells #[.int .i64 a, .int .i64 b, .int .i64 c, .slice (some ⟨g, 0, none⟩) L.length gk] 25)) (w1.heap.size + 1) (by simp) (by unfold maxLen; omega) (by simp [madeCells])
  simp only [World.size_alloc] at o0
  have o1 := Lib.hid o0
  clear o0
  clear hw1 hb1 hge hgg hG SB0 E4 Z4 G4 B4 cC MS
  go_wp2
  go_loopw [14, 15, 16, 17, 25] (fun f _ _ _ q wr => ∃ (k : Nat) (V : Value), k ≤ n ∧ q = .int .i64 k ∧ V = f ∧ Hid (wr.ownsRow (w1.heap.size + 1) 106 4 V k (((mvs a b c [p0, p1, p2, p3, p4] L s k)).map vi)) ∧ Hid (SwB w wr a b c p0 p1 p2 p3 p4 (w.heap.size + 1 + 1 + 1) w1.heap.size g gk L.length ((swS a b c [p0, p1, p2, p3, p4] L s k)).1 ((swS a b c [p0, p1, p2, p3, p4] L s k)).2)) (fun _ _ _ _ q _ => n - (intOf q).toNat)
  case atStart => exact ⟨0, _, by omega, rfl, rfl, o1, SB1⟩
  case round =>
    obtain ⟨k, V, hk, rfl, rfl, hown, sb⟩ := hrel
    clear o1 SB1
    by_cases hkn : k < n
    · have i1 : (k : Int) < (n : Int) := by omega
      have i2 : (k : Int) < (L.length : Int) := by omega
      have hIk := HI.out k (by omega)
      have HN1 := Lib.hid (HMS.out k)
      have HS1 := Lib.hid (show swS a b c [p0, p1, p2, p3, p4] L s (k + 1) = (((swS a b c [p0, p1, p2, p3, p4] L s k)).1.set k (small (swV a b c [p0, p1, p2, p3, p4] ((swS a b c [p0, p1, p2, p3, p4] L s k)) k : Nat)), adv ((swS a b c [p0, p1, p2, p3, p4] L s k)).2) from rfl)
      unfold mvc at HN1
      generalize hst : (swS a b c [p0, p1, p2, p3, p4] L s k) = st at *
      have HST := Lib.hid hst
      clear hst
      obtain ⟨P, q⟩ := st
      simp only at hIk HN1 HS1
      obtain ⟨hWL, hT, -, -, hch, hv24, hj24, hlk, -⟩ := HSTEP.out P q k hIk (by omega)
      have hPl : P.length = L.length := hIk.n
      have cM := fun (W : World) (h1 : Lies W g 0 P) (h2 : StA W) (h3 : GBox W (w.heap.size + 1 + 1 + 1) q) => HDM.out P q (swD a b c [p0, p1, p2, p3, p4] (P, q) k) (w.heap.size + 1 + 1 + 1) g gk k (nmb (lk P k)) (swV a b c [p0, p1, p2, p3, p4] (P, q) k) W h1 h2 hIk.f (by omega) hIk.s h3 hj24 hlk hWL hT rfl hch
      rw [hPl] at cM
      have cMs := fun W : World => small_any (swV a b c [p0, p1, p2, p3, p4] (P, q) k : Nat) W (by omega) (by omega)
      clear hIk hWL hT hch hj24 hlk
      generalize nmb (lk P k) = j at *
      generalize swV a b c [p0, p1, p2, p3, p4] (P, q) k = vv at *
      generalize swD a b c [p0, p1, p2, p3, p4] (P, q) k = d at *
      generalize small (vv : Int) = u at *
      generalize adv q = q' at *
      obtain ⟨t0, t1, t2, t3, tf, tl⟩ := sb.out.t
      obtain ⟨e0, e1, e2, e3, e4, ef, el⟩ := sb.out.e
      obtain ⟨gc, gf, gl⟩ := sb.out.gb
      have hkP : k < P.length := by omega
      have hx : P[k]? = some P[k] := List.getElem?_eq_getElem hkP
      have HX := Lib.hid hx
      clear hx
      generalize P[k] = x at *
      go_wp2_with (fail)
      refine (cM _ sb.out.l.h (S0.out.later sb.out.b) sb.out.gb).mono ?_
      rintro e y1 ⟨⟨rfl, hgb⟩, hy1⟩
      clear t0 t1 t2 t3 tf tl e0 e1 e2 e3 e4 ef el gc gf gl cM
      have ne1 : V.ownBlock ≠ some (w.heap.size + 1 + 1 + 1) := fun e => by have h1 := owned_from hown.out _ e; have := sb.out.o2; have := sb.out.o3; omega
      have own1 := (hown.out.kept hy1 (.inr ne1)).alloc (.cells #[.int .i64 k, .int .i64 j, .int .i64 vv, .int .i64 d] 106)
      have sb1 := (sb.out.drew hy1 hgb).later (ba1 (o := .cells #[.int .i64 k, .int .i64 j, .int .i64 vv, .int .i64 d] 106))
      have mb1 := RowT.mk (ABx.news (w := y1) (T := 106) #[.int .i64 k, .int .i64 j, .int .i64 vv, .int .i64 d]).h
      have hmb : g < y1.heap.size := Nat.lt_of_lt_of_le sb.out.l.lt hy1.size
      have htb : w1.heap.size + 1 ≤ y1.heap.size := Nat.le_trans sb.out.t.lt hy1.size
      have OWN1 := Lib.hid own1
      have SB2 := Lib.hid sb1
      have MB1 := Lib.hid mb1
      clear own1 sb1 mb1 ne1 hy1 hgb hown sb
      go_upto_region 10 with (fail)
      generalize y1.alloc (.cells #[.int .i64 k, .int .i64 j, .int .i64 vv, .int .i64 d] 106) = y2 at *
      generalize y1.heap.size = mb at *
      obtain ⟨t0, t1, t2, t3, tf, tl⟩ := SB2.out.t
      have m2 : y2.cell? ⟨mb, 2, none⟩ = some (.int .i64 vv) := by simp [World.cell?, MB1.out.h]
      have K5 : Hid (∀ w' : World, Below y2.heap.size y2 w' → (w'.cell? ⟨w1.heap.size, 3, none⟩ = some (.slice (some ⟨g, 0, none⟩) L.length gk) ∧ w'.cell? ⟨mb, 2, none⟩ = some (.int .i64 vv))) := Lib.hid (fun w' h => ⟨held_belowG h t3, held_belowG h m2⟩)
      have ng1 : some w1.heap.size ≠ some g := fun e => by have := Option.some.inj e; have := SB2.out.o3; omega
      have ng2 : some mb ≠ some g := fun e => by have := Option.some.inj e; omega
      have K6 : Hid (∀ (w' : World) (v0 v1 v2 v3 v4 : Value), Below y2.heap.size y2 w' → ((((((w'.setCell ⟨g, k * 5, none⟩ v0).setCell ⟨g, k * 5 + 1, none⟩ v1).setCell ⟨g, k * 5 + 2, none⟩ v2).setCell ⟨g, k * 5 + 3, none⟩ v3).setCell ⟨g, k * 5 + 4, none⟩ v4).cell? ⟨w1.heap.size, 3, none⟩ = some (.slice (some ⟨g, 0, none⟩) L.length gk) ∧ (((((w'.setCell ⟨g, k * 5, none⟩ v0).setCell ⟨g, k * 5 + 1, none⟩ v1).setCell ⟨g, k * 5 + 2, none⟩ v2).setCell ⟨g, k * 5 + 3, none⟩ v3).setCell ⟨g, k * 5 + 4, none⟩ v4).cell? ⟨mb, 2, none⟩ = some (.int .i64 vv))) := Lib.hid (fun w' v0 v1 v2 v3 v4 h => by
        have gg := grown_setCells g [v0, v1, v2, v3, v4] (k * 5) w'
        exact ⟨gg.cell (held_belowG h t3) ng1, gg.cell (held_belowG h m2) ng2⟩)
      clear t0 t1 t2 t3 tf tl m2
      have BD : Below y2.heap.size y2 y2.drew := ⟨rfl, rfl, rfl, Nat.le_refl _, fun _ _ => rfl⟩
      go_wp2_with (fail)
      try simp only [Act.put]
      go_region_held3 (fun w' => w'.cell? ⟨w1.heap.size, 3, none⟩ = some (.slice (some ⟨g, 0, none⟩) L.length gk) ∧ w'.cell? ⟨mb, 2, none⟩ = some (.int .i64 vv))
        (first | (with_reducible exact K6.out _ _ _ _ _ _ B5) | (with_reducible exact K5.out _ B5) | (with_reducible exact K5.out _ BD) | (with_reducible exact K5.out _ (Below.refl _ _)) | go_keep)
        (first | ((with_reducible refine (cMs _).mono ?_); rintro e z5 ⟨rfl, hw5⟩; have B5 : Below y2.heap.size y2 z5 := belDG hw5; obtain ⟨g0, g1, g2, g3, g4⟩ := (SB2.out.l.later B5).at HX.out; have gf := (SB2.out.l.later B5).free; have gl := (SB2.out.l.later B5).lt))
      have e5 : z5.setCells g (k * 5) (uc u) = ((((z5.setCell ⟨g, k * 5, none⟩ (.int .i64 u.a)).setCell ⟨g, k * 5 + 1, none⟩ (.int .i64 u.b)).setCell ⟨g, k * 5 + 2, none⟩ (.int .i64 u.c)).setCell ⟨g, k * 5 + 3, none⟩ (.int .i64 u.d)).setCell ⟨g, k * 5 + 4, none⟩ (.int .i64 u.n) := rfl
      have GG := grown_setCells g (uc u) (k * 5) z5
      have sbY := Lib.hid ((SB2.out.later B5).put k hkP u)
      have neO : V.ownBlock ≠ some g := fun e => by have h1 := owned_from OWN1.out _ e; have := SB2.out.o3; omega
      have owY := Lib.hid ((owned_later OWN1.out B5).kept GG (.inr neO))
      have mbY := Lib.hid (rowT_grown5 (MB1.out.later B5) GG ng2)
      clear GG neO B5 hw5 BD K5 K6 g0 g1 g2 g3 g4 gf gl SB2 OWN1 MB1 ng1 ng2 HX
      rw [e5] at sbY owY mbY
      clear e5
      generalize ((((z5.setCell ⟨g, k * 5, none⟩ (.int .i64 u.a)).setCell ⟨g, k * 5 + 1, none⟩ (.int .i64 u.b)).setCell ⟨g, k * 5 + 2, none⟩ (.int .i64 u.c)).setCell ⟨g, k * 5 + 3, none⟩ (.int .i64 u.d)).setCell ⟨g, k * 5 + 4, none⟩ (.int .i64 u.n) = Y at *
      have m0 : Y.cell? ⟨mb, 0, none⟩ = some (.int .i64 k) := by simp [World.cell?, mbY.out.h]
      have m1 : Y.cell? ⟨mb, 1, none⟩ = some (.int .i64 j) := by simp [World.cell?, mbY.out.h]
      have m2 : Y.cell? ⟨mb, 2, none⟩ = some (.int .i64 vv) := by simp [World.cell?, mbY.out.h]
      have m3 : Y.cell? ⟨mb, 3, none⟩ = some (.int .i64 d) := by simp [World.cell?, mbY.out.h]
      have tlY := sbY.out.t.lt
      go_wp2_with (at_builtin; refine wpList_append_own _ rfl (.tmp 54) (.tmp 56) 50 rfl (w1.heap.size + 1) 106 i0 _ 4 32 Tryz.underlying50 hi hz0 hz1 hz2 rfl (by decide) V k (((mvs a b c [p0, p1, p2, p3, p4] L s k)).map vi) rfl (owY.out.alloc _) ⟨Y.heap.size, 0, none⟩ 1 1 [vi k, vi j, vi vv, vi d] rfl rfl (four_cells rfl (by simp [go_sem, vi]) (by simp [go_sem, vi]) (by simp [go_sem, vi]) (by simp [go_sem, vi])) four_one (by unfold maxLen; omega) (by omega) (by simp; omega) ?_; intro v' w4 hown4 hgrow4 _)
      have hfr := owned_from owY.out
      have sb4 := Lib.hid ((sbY.out.later ba1).far hgrow4 (fun i hi => by have := hfr i hi; omega))
      have ho : Hid (w4.ownsRow (w1.heap.size + 1) 106 4 v' (k + 1) (((mvs a b c [p0, p1, p2, p3, p4] L s (k + 1))).map vi)) := Lib.hid (by rw [HN1.out, List.map_append]; exact hown4)
      clear hown4 hgrow4 owY mbY sbY hfr m0 m1 m2 m3 tlY
      go_wp2
      exact ⟨⟨k + 1, _, by omega, by go_num, rfl, ho, by rw [HS1.out]; exact sb4⟩, by simp [intOf]; omega⟩
    · obtain rfl : k = n := by omega
      have hfr := owned_from hown.out
      obtain ⟨mo, mkc, rfl, hmo, -⟩ := owned_moves hown.out (HML.out k)
      have hmb : ∀ (o f : Nat), mo = some ⟨o, f, none⟩ → w1.heap.size + 1 ≤ o := fun o f e => hfr o (by subst e; rfl)
      have NEM := Lib.hid (show ∀ (o f : Nat), mo = some ⟨o, f, none⟩ → w.heap.size + 1 + 1 < o from fun o f e => by have := hmb o f e; have := sb.out.o1; have := sb.out.o2; have := sb.out.o3; omega)
      clear hfr hmb
      have HMO := Lib.hid hmo
      clear hmo hown hkn hk
      generalize hst : (swS a b c [p0, p1, p2, p3, p4] L s k) = st at *
      have HST := Lib.hid hst
      clear hst
      obtain ⟨P, q⟩ := st
      obtain ⟨t0, t1, t2, t3, tf, tl⟩ := sb.out.t
      obtain ⟨gc, gf, gl⟩ := sb.out.gb
      have BD : Below wr.heap.size wr wr.drew := ⟨rfl, rfl, rfl, Nat.le_refl _, fun _ _ => rfl⟩
      have nz1 : some w1.heap.size ≠ some (w.heap.size + 1 + 1) := fun e => by have := Option.some.inj e; have := sb.out.o1; have := sb.out.o2; have := sb.out.o3; omega
      have nz2 : some (w.heap.size + 1 + 1 + 1) ≠ some (w.heap.size + 1 + 1) := fun e => by have := Option.some.inj e; omega
      have hgz : w.heap.size + 1 + 1 < g := by have := sb.out.o1; have := sb.out.o2; omega
      have K5 : Hid (∀ w' : World, Below wr.heap.size wr w' → (w'.cell? ⟨w1.heap.size, 0, none⟩ = some (.int .i64 a) ∧ w'.cell? ⟨w1.heap.size, 1, none⟩ = some (.int .i64 b) ∧ w'.cell? ⟨w1.heap.size, 2, none⟩ = some (.int .i64 c) ∧ w'.cell? ⟨w1.heap.size, 3, none⟩ = some (.slice (some ⟨g, 0, none⟩) L.length gk) ∧ w'.cell? ⟨w.heap.size + 1 + 1 + 1, 0, none⟩ = some (.int .i64 q))) := Lib.hid (fun w' h => ⟨held_belowG h t0, held_belowG h t1, held_belowG h t2, held_belowG h t3, held_belowG h gc⟩)
      have K6 : Hid (∀ (v0 v1 v2 v3 : Value), (((((wr.drew.setCell ⟨w.heap.size + 1 + 1, 0, none⟩ v0).setCell ⟨w.heap.size + 1 + 1, 1, none⟩ v1).setCell ⟨w.heap.size + 1 + 1, 2, none⟩ v2).setCell ⟨w.heap.size + 1 + 1, 3, none⟩ v3).cell? ⟨w1.heap.size, 0, none⟩ = some (.int .i64 a) ∧ ((((wr.drew.setCell ⟨w.heap.size + 1 + 1, 0, none⟩ v0).setCell ⟨w.heap.size + 1 + 1, 1, none⟩ v1).setCell ⟨w.heap.size + 1 + 1, 2, none⟩ v2).setCell ⟨w.heap.size + 1 + 1, 3, none⟩ v3).cell? ⟨w1.heap.size, 1, none⟩ = some (.int .i64 b) ∧ ((((wr.drew.setCell ⟨w.heap.size + 1 + 1, 0, none⟩ v0).setCell ⟨w.heap.size + 1 + 1, 1, none⟩ v1).setCell ⟨w.heap.size + 1 + 1, 2, none⟩ v2).setCell ⟨w.heap.size + 1 + 1, 3, none⟩ v3).cell? ⟨w1.heap.size, 2, none⟩ = some (.int .i64 c) ∧ ((((wr.drew.setCell ⟨w.heap.size + 1 + 1, 0, none⟩ v0).setCell ⟨w.heap.size + 1 + 1, 1, none⟩ v1).setCell ⟨w.heap.size + 1 + 1, 2, none⟩ v2).setCell ⟨w.heap.size + 1 + 1, 3, none⟩ v3).cell? ⟨w1.heap.size, 3, none⟩ = some (.slice (some ⟨g, 0, none⟩) L.length gk) ∧ ((((wr.drew.setCell ⟨w.heap.size + 1 + 1, 0, none⟩ v0).setCell ⟨w.heap.size + 1 + 1, 1, none⟩ v1).setCell ⟨w.heap.size + 1 + 1, 2, none⟩ v2).setCell ⟨w.heap.size + 1 + 1, 3, none⟩ v3).cell? ⟨w.heap.size + 1 + 1 + 1, 0, none⟩ = some (.int .i64 q))) := Lib.hid (fun v0 v1 v2 v3 => by
        have gg := grown_setCells (w.heap.size + 1 + 1) [v0, v1, v2, v3] 0 wr.drew
        exact ⟨gg.cell (held_belowG BD t0) nz1, gg.cell (held_belowG BD t1) nz1, gg.cell (held_belowG BD t2) nz1, gg.cell (held_belowG BD t3) nz1, gg.cell (held_belowG BD gc) nz2⟩)
      obtain ⟨z0, zz1, z2, z3, zf, zl⟩ := sb.out.z
      have K6b : Hid (∀ (v0 v1 v2 v3 : Value), (((((wr.setCell ⟨w.heap.size + 1 + 1, 0, none⟩ v0).setCell ⟨w.heap.size + 1 + 1, 1, none⟩ v1).setCell ⟨w.heap.size + 1 + 1, 2, none⟩ v2).setCell ⟨w.heap.size + 1 + 1, 3, none⟩ v3).cell? ⟨w1.heap.size, 0, none⟩ = some (.int .i64 a) ∧ ((((wr.setCell ⟨w.heap.size + 1 + 1, 0, none⟩ v0).setCell ⟨w.heap.size + 1 + 1, 1, none⟩ v1).setCell ⟨w.heap.size + 1 + 1, 2, none⟩ v2).setCell ⟨w.heap.size + 1 + 1, 3, none⟩ v3).cell? ⟨w1.heap.size, 1, none⟩ = some (.int .i64 b) ∧ ((((wr.setCell ⟨w.heap.size + 1 + 1, 0, none⟩ v0).setCell ⟨w.heap.size + 1 + 1, 1, none⟩ v1).setCell ⟨w.heap.size + 1 + 1, 2, none⟩ v2).setCell ⟨w.heap.size + 1 + 1, 3, none⟩ v3).cell? ⟨w1.heap.size, 2, none⟩ = some (.int .i64 c) ∧ ((((wr.setCell ⟨w.heap.size + 1 + 1, 0, none⟩ v0).setCell ⟨w.heap.size + 1 + 1, 1, none⟩ v1).setCell ⟨w.heap.size + 1 + 1, 2, none⟩ v2).setCell ⟨w.heap.size + 1 + 1, 3, none⟩ v3).cell? ⟨w1.heap.size, 3, none⟩ = some (.slice (some ⟨g, 0, none⟩) L.length gk) ∧ ((((wr.setCell ⟨w.heap.size + 1 + 1, 0, none⟩ v0).setCell ⟨w.heap.size + 1 + 1, 1, none⟩ v1).setCell ⟨w.heap.size + 1 + 1, 2, none⟩ v2).setCell ⟨w.heap.size + 1 + 1, 3, none⟩ v3).cell? ⟨w.heap.size + 1 + 1 + 1, 0, none⟩ = some (.int .i64 q))) := Lib.hid (fun v0 v1 v2 v3 => by
        have gg := grown_setCells (w.heap.size + 1 + 1) [v0, v1, v2, v3] 0 wr
        exact ⟨gg.cell t0 nz1, gg.cell t1 nz1, gg.cell t2 nz1, gg.cell t3 nz1, gg.cell gc nz2⟩)
      have K6c : Hid (∀ (v0 v1 v2 v3 : Value), ((((((wr.setCell ⟨w.heap.size + 1 + 1, 0, none⟩ v0).setCell ⟨w.heap.size + 1 + 1, 1, none⟩ v1).setCell ⟨w.heap.size + 1 + 1, 2, none⟩ v2).setCell ⟨w.heap.size + 1 + 1, 3, none⟩ v3)).drew.cell? ⟨w1.heap.size, 0, none⟩ = some (.int .i64 a) ∧ (((((wr.setCell ⟨w.heap.size + 1 + 1, 0, none⟩ v0).setCell ⟨w.heap.size + 1 + 1, 1, none⟩ v1).setCell ⟨w.heap.size + 1 + 1, 2, none⟩ v2).setCell ⟨w.heap.size + 1 + 1, 3, none⟩ v3)).drew.cell? ⟨w1.heap.size, 1, none⟩ = some (.int .i64 b) ∧ (((((wr.setCell ⟨w.heap.size + 1 + 1, 0, none⟩ v0).setCell ⟨w.heap.size + 1 + 1, 1, none⟩ v1).setCell ⟨w.heap.size + 1 + 1, 2, none⟩ v2).setCell ⟨w.heap.size + 1 + 1, 3, none⟩ v3)).drew.cell? ⟨w1.heap.size, 2, none⟩ = some (.int .i64 c) ∧ (((((wr.setCell ⟨w.heap.size + 1 + 1, 0, none⟩ v0).setCell ⟨w.heap.size + 1 + 1, 1, none⟩ v1).setCell ⟨w.heap.size + 1 + 1, 2, none⟩ v2).setCell ⟨w.heap.size + 1 + 1, 3, none⟩ v3)).drew.cell? ⟨w1.heap.size, 3, none⟩ = some (.slice (some ⟨g, 0, none⟩) L.length gk) ∧ (((((wr.setCell ⟨w.heap.size + 1 + 1, 0, none⟩ v0).setCell ⟨w.heap.size + 1 + 1, 1, none⟩ v1).setCell ⟨w.heap.size + 1 + 1, 2, none⟩ v2).setCell ⟨w.heap.size + 1 + 1, 3, none⟩ v3)).drew.cell? ⟨w.heap.size + 1 + 1 + 1, 0, none⟩ = some (.int .i64 q))) := Lib.hid (fun v0 v1 v2 v3 => K6b.out v0 v1 v2 v3)
      have GZ := grown_setCells (w.heap.size + 1 + 1) [.int .i64 a, .int .i64 b, .int .i64 c, .slice (some ⟨g, 0, none⟩) L.length gk] 0 wr
      have hb := sb.out.b.grown GZ sb.out.b.size (fun j hj => by cases hj; omega)
      have XD : ∀ X : World, Below X.heap.size X X.drew := fun X => ⟨rfl, rfl, rfl, Nat.le_refl _, fun _ _ => rfl⟩
      have lY := Lib.hid ((sb.out.l.grown GZ (by simp; omega)).later (XD _))
      have hbY := Lib.hid (hb.trans ((XD _).mono hb.size))
      have moY := Lib.hid ((liesOI_far HMO.out GZ (fun o f e => by have := NEM.out o f e; simp; omega)).later (XD _))
      clear hb GZ XD t0 t1 t2 t3 tf tl gc gf gl nz1 nz2
      go_wp2_with (fail)
      try simp only [Act.put]
      go_region_held3 (fun w' => w'.cell? ⟨w1.heap.size, 0, none⟩ = some (.int .i64 a) ∧ w'.cell? ⟨w1.heap.size, 1, none⟩ = some (.int .i64 b) ∧ w'.cell? ⟨w1.heap.size, 2, none⟩ = some (.int .i64 c) ∧ w'.cell? ⟨w1.heap.size, 3, none⟩ = some (.slice (some ⟨g, 0, none⟩) L.length gk) ∧ w'.cell? ⟨w.heap.size + 1 + 1 + 1, 0, none⟩ = some (.int .i64 q))
        (first | (with_reducible exact K6.out _ _ _ _) | (with_reducible exact K6b.out _ _ _ _) | (with_reducible exact K6c.out _ _ _ _) | (with_reducible exact K5.out _ BD) | (with_reducible exact K5.out _ (Below.refl _ _)) | go_keep)
        (fail)
      go_wp2
      refine bodyPost_ret (v := .tuple #[.agg #[.int .i64 a, .int .i64 b, .int .i64 c, .slice (some ⟨g, 0, none⟩) L.length gk], .int .i64 q, .slice mo k mkc, .int .i64 0]) ?_ rfl ⟨⟨g, gk, mo, mkc, by rw [HST.out], by rw [HST.out]; exact lY.out, by omega, moY.out, fun o f e => by have := NEM.out o f e; omega⟩, hbY.out⟩
      simp [results, Tryz.results64, go_sem, z0, zz1, z2, z3, zl]
end Go.Proofs.YtpfhjdmgkckjfaaGreatDoor
