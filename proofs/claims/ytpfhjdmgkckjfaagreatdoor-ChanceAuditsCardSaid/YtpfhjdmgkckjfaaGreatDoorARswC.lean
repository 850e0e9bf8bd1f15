/- A sweep, as the document's answers go through the links.
Conditions: those written at the theorem. -/
import Derived.Test.YtpfhjdmgkckjfaaGreatDoorAFmvC
import Derived.Test.YtpfhjdmgkckjfaaGreatDoorASameU4
namespace Go.Proofs.YtpfhjdmgkckjfaaGreatDoor
set_option linter.unusedVariables false
set_option linter.unusedSimpArgs false
set_option maxRecDepth 1000000
open Go.RowKit
open Um Tm Cm

/-- what lies in memory while the document's answers sweep -/
structure RwB (w X : World) (a b c p0 p1 p2 p3 p4 : Int) (g gk N : Nat) (P : List Q) : Prop where
  e : C5 X (w.heap.size + 1) (.int .i64 p0) (.int .i64 p1) (.int .i64 p2) (.int .i64 p3) (.int .i64 p4)
  z : FW X (w.heap.size + 1 + 1) 0 0 0 (.slice none 0 0)
  t : FW X w.heap.size a b c (.slice (some ⟨g, 0, none⟩) N gk)
  l : LBox X g P
  b : Below w.heap.size w X
  o : w.heap.size + 1 + 1 < g
section
variable {w X Y : World} {a b c p0 p1 p2 p3 p4 : Int} {g gk N : Nat} {P : List Q}
theorem RwB.later (h : RwB w X a b c p0 p1 p2 p3 p4 g gk N P) (hb : Below X.heap.size X Y) : RwB w Y a b c p0 p1 p2 p3 p4 g gk N P :=
  ⟨h.e.later hb, h.z.later hb, h.t.later hb, h.l.later hb, h.b.trans (hb.mono h.b.size), h.o⟩
theorem RwB.far {row : Option Nat} (h : RwB w X a b c p0 p1 p2 p3 p4 g gk N P) (hg : X.grownBy Y row) (hr : ∀ k, row = some k → g < k) : RwB w Y a b c p0 p1 p2 p3 p4 g gk N P := by
  have ne : ∀ i, i ≤ g → some i ≠ row := fun i hi e => by have := hr i e.symm; omega
  have o := h.o
  exact ⟨c5_grown h.e hg (ne _ (by omega)), h.z.grown hg (ne _ (by omega)), h.t.grown hg (ne _ (by omega)), h.l.grown hg (ne _ (by omega)), h.b.grown hg h.b.size (fun j e => by have := hr j e; omega), o⟩
theorem RwB.put (h : RwB w X a b c p0 p1 p2 p3 p4 g gk N P) (k : Nat) (hk : k < P.length) (u : Q) : RwB w (X.setCells g (k * 5) (uc u)) a b c p0 p1 p2 p3 p4 g gk N (P.set k u) := by
  have hg := grown_setCells g (uc u) (k * 5) X
  have ne : ∀ i, i ≠ g → some i ≠ some g := fun i hi e => hi (Option.some.inj e)
  have o := h.o
  exact ⟨c5_grown h.e hg (ne _ (by omega)), h.z.grown hg (ne _ (by omega)), h.t.grown hg (ne _ (by omega)), h.l.put k hk u, h.b.grown hg h.b.size (fun j e => by cases e; omega), o⟩
end
theorem fw_set {w : World} {m : Nat} {x y z x' y' z' : Int} {v v' : Value} (h : FW w m x y z v) : FW ((((w.setCell ⟨m, 0, none⟩ (.int .i64 x')).setCell ⟨m, 1, none⟩ (.int .i64 y')).setCell ⟨m, 2, none⟩ (.int .i64 z')).setCell ⟨m, 3, none⟩ v') m x' y' z' v' := by
  obtain ⟨f0, f1, f2, f3, ff, fl⟩ := h
  exact ⟨by simp [go_sem, f0, f1, f2, f3], by simp [go_sem, f0, f1, f2, f3], by simp [go_sem, f0, f1, f2, f3], by simp [go_sem, f0, f1, f2, f3], fun j => by simp [go_sem, ff], by simpa [World.setCell] using fl⟩
set_option maxHeartbeats 25600000 in
theorem refSweepS_ok (a b c p0 p1 p2 p3 p4 s : Int) (bl off cap n : Nat) (L : List Q) (w : World) (hm : Lies w bl off L) (hI : SwI a b c L s L.length) (hWO : WOk [p0, p1, p2, p3, p4]) (hn : n ≤ L.length) :
    Calls Tryz.prog 66 #[.agg #[.int .i64 a, .int .i64 b, .int .i64 c, .slice (some ⟨bl, off, none⟩) L.length cap], .agg #[.int .i64 p0, .int .i64 p1, .int .i64 p2, .int .i64 p3, .int .i64 p4], .int .i64 s, .int .i64 n] w fun e w' => (∃ (g gk : Nat) (mo : Option Addr) (mk : Nat), e = .returned (.tuple #[.agg #[.int .i64 a, .int .i64 b, .int .i64 c, .slice (some ⟨g, 0, none⟩) L.length gk], .int .i64 ((swS a b c [p0, p1, p2, p3, p4] L s n)).2, .slice mo n mk]) ∧ LBox w' g ((swS a b c [p0, p1, p2, p3, p4] L s n)).1 ∧ w.heap.size ≤ g ∧ LiesOI w' mo ((mvs a b c [p0, p1, p2, p3, p4] L s n)) ∧ (∀ o f : Nat, mo = some ⟨o, f, none⟩ → w.heap.size ≤ o)) ∧ Below w.heap.size w w' := by
  obtain ⟨i0, hi, hz0, hz1, hz2⟩ := info_parts infoMv
  have hL48 := hI.f.le
  have hn3 : 3 ≤ L.length := by have := hI.f.n; have h1 := hI.f.z.p; have := hI.f.z.a1; have := hI.f.z.b1; have := hI.f.z.c1; have : 1 ≤ a * b * c := Int.mul_pos (Int.mul_pos (by omega) (by omega)) (by omega); omega
  have HI := Lib.hid (swI_all hI hWO)
  have HSTEP := Lib.hid (fun (P : List Q) (q : Int) (k : Nat) (h : SwI a b c P q L.length) (hk : k < L.length) => swI_step h hWO hk)
  have HWE := Lib.hid (fun (P : List Q) (g gk k : Nat) (W : World) (h : Lies W g 0 P) (hF : SmF a b c P) (h1 : (k : Int) < (P.length : Int)) => (show Calls Tryz.prog 44 #[.agg #[.int .i64 a, .int .i64 b, .int .i64 c, .slice (some ⟨g, 0, none⟩) P.length gk], .agg #[.int .i64 p0, .int .i64 p1, .int .i64 p2, .int .i64 p3, .int .i64 p4], .int .i64 k] W fun e w' => e = .returned (.agg ((swW a b c [p0, p1, p2, p3, p4] P k).map vi).toArray) ∧ Below W.heap.size W w' from refWeights_any a b c p0 p1 p2 p3 p4 k g 0 gk P W h hF hWO (by omega) h1))
  have HMS := Lib.hid (mvs_succ a b c [p0, p1, p2, p3, p4] L s)
  have HML := Lib.hid (mvs_len a b c [p0, p1, p2, p3, p4] L s)
  have cC := fun (W : World) (k : Lies W bl off L) => refCopy4_some a b c bl off cap L W k (by omega) (by omega)
  have H0 := Lib.hid hm
  have E3 : C5 (((w.alloc (.cells #[.int .i64 a, .int .i64 b, .int .i64 c, .slice (some ⟨bl, off, none⟩) L.length cap] 25)).alloc (.cells #[.int .i64 p0, .int .i64 p1, .int .i64 p2, .int .i64 p3, .int .i64 p4] 26)).alloc (.cells #[.int .i64 0, .int .i64 0, .int .i64 0, .slice none 0 0] 25)) (w.heap.size + 1) (.int .i64 p0) (.int .i64 p1) (.int .i64 p2) (.int .i64 p3) (.int .i64 p4) := C5.n3b
  have Z3 : FW (((w.alloc (.cells #[.int .i64 a, .int .i64 b, .int .i64 c, .slice (some ⟨bl, off, none⟩) L.length cap] 25)).alloc (.cells #[.int .i64 p0, .int .i64 p1, .int .i64 p2, .int .i64 p3, .int .i64 p4] 26)).alloc (.cells #[.int .i64 0, .int .i64 0, .int .i64 0, .slice none 0 0] 25)) (w.heap.size + 1 + 1) 0 0 0 (.slice none 0 0) := FW.n3c
  have F3 : FW (((w.alloc (.cells #[.int .i64 a, .int .i64 b, .int .i64 c, .slice (some ⟨bl, off, none⟩) L.length cap] 25)).alloc (.cells #[.int .i64 p0, .int .i64 p1, .int .i64 p2, .int .i64 p3, .int .i64 p4] 26)).alloc (.cells #[.int .i64 0, .int .i64 0, .int .i64 0, .slice none 0 0] 25)) w.heap.size a b c (.slice (some ⟨bl, off, none⟩) L.length cap) := FW.n3a
  have B3 : Below w.heap.size w (((w.alloc (.cells #[.int .i64 a, .int .i64 b, .int .i64 c, .slice (some ⟨bl, off, none⟩) L.length cap] 25)).alloc (.cells #[.int .i64 p0, .int .i64 p1, .int .i64 p2, .int .i64 p3, .int .i64 p4] 26)).alloc (.cells #[.int .i64 0, .int .i64 0, .int .i64 0, .slice none 0 0] 25)) := ba3
  have E4 := Lib.hid E3
  have Z4 := Lib.hid Z3
  have F4 := Lib.hid F3
  have B4 := Lib.hid B3
  clear hm hI hWO E3 Z3 F3 B3
  go_enter Tryz.func66, Tryz.ntmps66
  go_wp2_with (fail)
  refine (cC _ (H0.out.later B4.out)).mono ?_
  rintro e w1 ⟨g, gk, rfl, hG, hge, hw1⟩
  have hgg : w.heap.size + 1 + 1 < g := Nat.lt_of_lt_of_le Z4.out.lt hge
  have hb1 := B4.out.trans (hw1.mono B4.out.size)
  have GF := grown_setCells w.heap.size [.int .i64 a, .int .i64 b, .int .i64 c, .slice (some ⟨g, 0, none⟩) L.length gk] 0 w1
  have nf : ∀ i, w.heap.size < i → some i ≠ some w.heap.size := fun i hi e => by have := Option.some.inj e; omega
  have RB0 : RwB w ((((w1.setCell ⟨w.heap.size, 0, none⟩ (.int .i64 a)).setCell ⟨w.heap.size, 1, none⟩ (.int .i64 b)).setCell ⟨w.heap.size, 2, none⟩ (.int .i64 c)).setCell ⟨w.heap.size, 3, none⟩ (.slice (some ⟨g, 0, none⟩) L.length gk)) a b c p0 p1 p2 p3 p4 g gk L.length L := ⟨c5_grown (E4.out.later hw1) GF (nf _ (by omega)), (Z4.out.later hw1).grown GF (nf _ (by omega)), fw_set (F4.out.later hw1), hG.grown GF (nf _ (by omega)), hb1.grown GF hb1.size (fun j hj => by cases hj; exact Nat.le_refl _), hgg⟩
  have RB1 := Lib.hid RB0
  obtain ⟨f0, f1, f2, f3, ff, fl⟩ := F4.out.later hw1
  clear hw1 hb1 hge hgg hG GF nf RB0 E4 Z4 B4 cC F4
  go_wp2
  generalize ((((w1.setCell ⟨w.heap.size, 0, none⟩ (.int .i64 a)).setCell ⟨w.heap.size, 1, none⟩ (.int .i64 b)).setCell ⟨w.heap.size, 2, none⟩ (.int .i64 c)).setCell ⟨w.heap.size, 3, none⟩ (.slice (some ⟨g, 0, none⟩) L.length gk)) = w2 at *
  have o1 : Hid (w2.ownsRow (g + 1) 106 4 (.slice none 0 0) 0 (((mvs a b c [p0, p1, p2, p3, p4] L s 0)).map vi)) := Lib.hid ⟨rfl, .inl ⟨rfl, rfl⟩⟩
  clear f0 f1 f2 f3 ff fl
  go_loopw [2, 11, 12, 13, 14, 15, 16] (fun sd f q _ _ _ _ wr => ∃ (k : Nat) (V : Value), k ≤ n ∧ q = .int .i64 k ∧ sd = .int .i64 ((swS a b c [p0, p1, p2, p3, p4] L s k)).2 ∧ V = f ∧ Hid (wr.ownsRow (g + 1) 106 4 V k (((mvs a b c [p0, p1, p2, p3, p4] L s k)).map vi)) ∧ Hid (RwB w wr a b c p0 p1 p2 p3 p4 g gk L.length ((swS a b c [p0, p1, p2, p3, p4] L s k)).1)) (fun _ _ q _ _ _ _ _ => n - (intOf q).toNat)
  case atStart => exact ⟨0, _, by omega, rfl, rfl, rfl, o1, RB1⟩
  case round =>
    obtain ⟨k, V, hk, rfl, rfl, rfl, hown, rb⟩ := hrel
    clear o1 RB1
    by_cases hkn : k < n
    · have i1 : (k : Int) < (n : Int) := by omega
      have i2 : (k : Int) < (L.length : Int) := by omega
      have hIk := HI.out k (by omega)
      have HN1 := Lib.hid (HMS.out k)
      have HS1 := Lib.hid (show swS a b c [p0, p1, p2, p3, p4] L s (k + 1) = (((swS a b c [p0, p1, p2, p3, p4] L s k)).1.set k (small (swV a b c [p0, p1, p2, p3, p4] ((swS a b c [p0, p1, p2, p3, p4] L s k)) k : Nat)), adv ((swS a b c [p0, p1, p2, p3, p4] L s k)).2) from rfl)
      unfold mvc at HN1
      generalize hst : (swS a b c [p0, p1, p2, p3, p4] L s k) = st at *
      clear hst
      obtain ⟨P, q⟩ := st
      simp only at hIk HN1 HS1
      obtain ⟨hWL, hT, -, -, hch, hv24, hj24, hlk, -⟩ := HSTEP.out P q k hIk (by omega)
      have hPl : P.length = L.length := hIk.n
      have cW := fun (W : World) (h1 : Lies W g 0 P) => HWE.out P g gk k W h1 hIk.f (by omega)
      rw [hPl] at cW
      have hps := hWL.ps 24 (by omega)
      have cS := fun W : World => refSum5_any (swW a b c [p0, p1, p2, p3, p4] P k) W hWL
      have cD := fun W : World => refDrawS_any q (psum (swW a b c [p0, p1, p2, p3, p4] P k) 24) W hIk.s hT (by omega)
      have hde : drw q (psum (swW a b c [p0, p1, p2, p3, p4] P k) 24) = swD a b c [p0, p1, p2, p3, p4] (P, q) k := rfl
      rw [hde] at cD
      have cK := fun W : World => refChosen5_any (swW a b c [p0, p1, p2, p3, p4] P k) (swD a b c [p0, p1, p2, p3, p4] (P, q) k) (swV a b c [p0, p1, p2, p3, p4] (P, q) k) W hWL hch
      have cN := fun W : World => number5_any (nmb (lk P k)) hj24 W
      have cU := fun W : World => unit5_any (swV a b c [p0, p1, p2, p3, p4] (P, q) k : Nat) W (by omega) (by omega)
      have hA := R24.of hWL.n
      have SZ := Lib.hid hA.sz
      have OL := Lib.hid hA.ol
      have ON := Lib.hid hA.one
      have HX := Lib.hid hlk
      have hkP : k < P.length := by omega
      clear hIk hWL hT hch hj24 hps hde hA hlk
      generalize ((swW a b c [p0, p1, p2, p3, p4] P k).map vi).toArray = D at *
      generalize psum (swW a b c [p0, p1, p2, p3, p4] P k) 24 = T at *
      generalize nmb (lk P k) = j at *
      generalize swV a b c [p0, p1, p2, p3, p4] (P, q) k = vv at *
      generalize swD a b c [p0, p1, p2, p3, p4] (P, q) k = d at *
      generalize small (vv : Int) = u at *
      generalize small (j : Int) = x at *
      generalize adv q = q' at *
      obtain ⟨t0, t1, t2, t3, tf, tl⟩ := rb.out.t
      obtain ⟨e0, e1, e2, e3, e4, ef, el⟩ := rb.out.e
      go_wp2_with (fail)
      refine (cW _ rb.out.l.h).mono ?_
      rintro e y1 ⟨rfl, hy1⟩
      clear t0 t1 t2 t3 tf tl e0 e1 e2 e3 e4 ef el cW
      have TZ := Lib.hid (ABx.news (w := y1) (T := 29) #[.int .i64 0, .int .i64 0, .int .i64 0, .int .i64 0, .int .i64 0, .int .i64 0, .int .i64 0, .int .i64 0, .int .i64 0, .int .i64 0, .int .i64 0, .int .i64 0, .int .i64 0, .int .i64 0, .int .i64 0, .int .i64 0, .int .i64 0, .int .i64 0, .int .i64 0, .int .i64 0, .int .i64 0, .int .i64 0, .int .i64 0, .int .i64 0])
      have nx := r24_below y1 D
      have A2 : Hid (RowT _ _ _ _) := Lib.hid ⟨r24_new y1 D⟩
      have rb2 := Lib.hid ((rb.out.later hy1).later nx)
      have ow2 := Lib.hid (owned_later (owned_later hown.out hy1) nx)
      clear hy1 nx rb hown
      go_wp2_with (first | (refine wpList_store_row rfl 29 (.tmp 13) (.tmp 27) rfl y1.heap.size D rfl rfl 29 _ TZ.out.h SZ.out OL.out ON.out ?_) | (refine wpList_load_row rfl 29 (.tmp 13) rfl y1.heap.size rfl 29 D (0, 0) _ A2.out.h Tryz.underlying29 rfl SZ.out ?_))
      generalize (y1.alloc (.cells #[.int .i64 0, .int .i64 0, .int .i64 0, .int .i64 0, .int .i64 0, .int .i64 0, .int .i64 0, .int .i64 0, .int .i64 0, .int .i64 0, .int .i64 0, .int .i64 0, .int .i64 0, .int .i64 0, .int .i64 0, .int .i64 0, .int .i64 0, .int .i64 0, .int .i64 0, .int .i64 0, .int .i64 0, .int .i64 0, .int .i64 0, .int .i64 0] 29)).setRow y1.heap.size D = y2 at *
      refine (cS _).mono ?_
      rintro e y3 ⟨rfl, hy3⟩
      go_wp2_with (fail)
      refine (cD _).mono ?_
      rintro e yx ⟨rfl, rfl⟩
      have A3 := Lib.hid (A2.out.later hy3)
      have rb3 := Lib.hid (rb2.out.later hy3)
      have ow3 := Lib.hid (owned_later ow2.out hy3)
      clear hy3 A2 rb2 ow2 TZ OL ON cS cD
      go_wp2_with (first | (refine wpList_load_row rfl 29 (.tmp 13) rfl y1.heap.size rfl 29 D (0, 0) _ A3.out.h Tryz.underlying29 rfl SZ.out ?_))
      refine (cK _).mono ?_
      rintro e y4 ⟨rfl, hy4⟩
      have rb4 := Lib.hid (rb3.out.later hy4)
      have ow4 := Lib.hid (owned_later ow3.out hy4)
      clear hy4 A3 rb3 ow3 cK SZ
      obtain ⟨t0, t1, t2, t3, tf, tl⟩ := rb4.out.t
      obtain ⟨l0, l1, l2, l3, l4⟩ := rb4.out.l.at HX.out
      go_wp2_with (fail)
      refine (cN _).mono ?_
      rintro e y5 ⟨rfl, hy5⟩
      clear t0 t1 t2 t3 tf tl l0 l1 l2 l3 l4 cN
      have rb5 := Lib.hid (rb4.out.later hy5)
      have ow5 := Lib.hid (owned_later ow4.out hy5)
      clear hy5 rb4 ow4
      have glY := rb5.out.l.lt
      go_wp2_with (at_builtin; refine wpList_append_own _ rfl (.tmp 39) (.tmp 50) 50 rfl (g + 1) 106 i0 _ 4 32 Tryz.underlying50 hi hz0 hz1 hz2 rfl (by decide) V k (((mvs a b c [p0, p1, p2, p3, p4] L s k)).map vi) rfl (ow5.out.alloc _) ⟨y5.heap.size, 0, none⟩ 1 1 [vi k, vi j, vi vv, vi d] rfl rfl (four_cells rfl (by simp [go_sem, vi]) (by simp [go_sem, vi]) (by simp [go_sem, vi]) (by simp [go_sem, vi])) four_one (by unfold maxLen; omega) (by omega) (by simp; omega) ?_; intro v' w4 hown4 hgrow4 _)
      have hfr := owned_from ow5.out
      have rb6 := Lib.hid ((rb5.out.later ba1).far hgrow4 (fun i hi => by have := hfr i hi; omega))
      have ow6 : Hid (w4.ownsRow (g + 1) 106 4 v' (k + 1) (((mvs a b c [p0, p1, p2, p3, p4] L s (k + 1))).map vi)) := Lib.hid (by rw [HN1.out, List.map_append]; exact hown4)
      clear hown4 hgrow4 hfr rb5 ow5 glY HN1
      obtain ⟨t0, t1, t2, t3, tf, tl⟩ := rb6.out.t
      have ng1 : some w.heap.size ≠ some g := fun e => by have := Option.some.inj e; have := rb6.out.o; omega
      have BD : Below w4.heap.size w4 w4.drew := ⟨rfl, rfl, rfl, Nat.le_refl _, fun _ _ => rfl⟩
      have K5 : Hid (∀ w' : World, Below w4.heap.size w4 w' → (w'.cell? ⟨w.heap.size, 3, none⟩ = some (.slice (some ⟨g, 0, none⟩) L.length gk))) := Lib.hid (fun w' h => held_belowG h t3)
      have K6 : Hid (∀ (w' : World) (v0 v1 v2 v3 v4 : Value), Below w4.heap.size w4 w' → ((((((w'.setCell ⟨g, k * 5, none⟩ v0).setCell ⟨g, k * 5 + 1, none⟩ v1).setCell ⟨g, k * 5 + 2, none⟩ v2).setCell ⟨g, k * 5 + 3, none⟩ v3).setCell ⟨g, k * 5 + 4, none⟩ v4).cell? ⟨w.heap.size, 3, none⟩ = some (.slice (some ⟨g, 0, none⟩) L.length gk))) := Lib.hid (fun w' v0 v1 v2 v3 v4 h => (grown_setCells g [v0, v1, v2, v3, v4] (k * 5) w').cell (held_belowG h t3) ng1)
      clear t0 t1 t2 t3 tf tl ng1
      go_wp2_with (fail)
      try simp only [Act.put]
      go_region_held3 (fun w' => w'.cell? ⟨w.heap.size, 3, none⟩ = some (.slice (some ⟨g, 0, none⟩) L.length gk))
        (first | (with_reducible exact K6.out _ _ _ _ _ _ B5) | (with_reducible exact K5.out _ B5) | (with_reducible exact K5.out _ BD) | (with_reducible exact K5.out _ (Below.refl _ _)) | go_keep)
        (first | ((with_reducible refine (cU _).mono ?_); rintro e z5 ⟨rfl, hw5⟩; have B5 : Below w4.heap.size w4 z5 := belDG hw5; obtain ⟨g0, g1, g2, g3, g4⟩ := (rb6.out.l.later B5).at HX.out; have gf := (rb6.out.l.later B5).free; have gl := (rb6.out.l.later B5).lt))
      have e5 : z5.setCells g (k * 5) (uc u) = ((((z5.setCell ⟨g, k * 5, none⟩ (.int .i64 u.a)).setCell ⟨g, k * 5 + 1, none⟩ (.int .i64 u.b)).setCell ⟨g, k * 5 + 2, none⟩ (.int .i64 u.c)).setCell ⟨g, k * 5 + 3, none⟩ (.int .i64 u.d)).setCell ⟨g, k * 5 + 4, none⟩ (.int .i64 u.n) := rfl
      have GG := grown_setCells g (uc u) (k * 5) z5
      have rbY := Lib.hid ((rb6.out.later B5).put k hkP u)
      have neO : v'.ownBlock ≠ some g := fun e => by have h1 := owned_from ow6.out _ e; omega
      have owY := Lib.hid ((owned_later ow6.out B5).kept GG (.inr neO))
      clear GG neO B5 hw5 BD K5 K6 g0 g1 g2 g3 g4 gf gl rb6 ow6 HX
      rw [e5] at rbY owY
      clear e5
      generalize ((((z5.setCell ⟨g, k * 5, none⟩ (.int .i64 u.a)).setCell ⟨g, k * 5 + 1, none⟩ (.int .i64 u.b)).setCell ⟨g, k * 5 + 2, none⟩ (.int .i64 u.c)).setCell ⟨g, k * 5 + 3, none⟩ (.int .i64 u.d)).setCell ⟨g, k * 5 + 4, none⟩ (.int .i64 u.n) = Y at *
      go_wp2
      exact ⟨⟨k + 1, _, by omega, by go_num, by rw [HS1.out], rfl, owY, by rw [HS1.out]; exact rbY⟩, by simp [intOf]; omega⟩
    · obtain rfl : k = n := by omega
      have hfr := owned_from hown.out
      obtain ⟨mo, mkc, rfl, hmo, -⟩ := owned_moves hown.out (HML.out k)
      have hmb : ∀ (o f : Nat), mo = some ⟨o, f, none⟩ → g + 1 ≤ o := fun o f e => hfr o (by subst e; rfl)
      have NEM := Lib.hid (show ∀ (o f : Nat), mo = some ⟨o, f, none⟩ → w.heap.size + 1 + 1 < o from fun o f e => by have := hmb o f e; have := rb.out.o; omega)
      have HMO := Lib.hid hmo
      clear hfr hmb hmo hown hkn hk
      generalize hst : (swS a b c [p0, p1, p2, p3, p4] L s k) = st at *
      have HST := Lib.hid hst
      clear hst
      obtain ⟨P, q⟩ := st
      obtain ⟨t0, t1, t2, t3, tf, tl⟩ := rb.out.t
      obtain ⟨z0, zz1, z2, z3, zf, zl⟩ := rb.out.z
      have hgz := rb.out.o
      have GZ := grown_setCells (w.heap.size + 1 + 1) [.int .i64 a, .int .i64 b, .int .i64 c, .slice (some ⟨g, 0, none⟩) L.length gk] 0 wr
      have lY := Lib.hid (rb.out.l.grown GZ (by simp; omega))
      have hbY := Lib.hid (rb.out.b.grown GZ rb.out.b.size (fun j hj => by cases hj; omega))
      have moY := Lib.hid (liesOI_far HMO.out GZ (fun o f e => by have := NEM.out o f e; simp; omega))
      clear GZ
      go_wp2
      refine bodyPost_ret (v := .tuple #[.agg #[.int .i64 a, .int .i64 b, .int .i64 c, .slice (some ⟨g, 0, none⟩) L.length gk], .int .i64 q, .slice mo k mkc]) ?_ rfl ⟨⟨g, gk, mo, ⟨mkc, by rw [HST.out]⟩, by rw [HST.out]; exact lY.out, by omega, moY.out, fun o f e => by have := NEM.out o f e; omega⟩, hbY.out⟩
      simp [results, Tryz.results66, go_sem, z0, zz1, z2, z3, zl]
end Go.Proofs.YtpfhjdmgkckjfaaGreatDoor
