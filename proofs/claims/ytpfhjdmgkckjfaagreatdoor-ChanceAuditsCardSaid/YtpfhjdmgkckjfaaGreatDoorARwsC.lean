/- The weights of the values of a link, as the document's answers reckon them.
Conditions: those written at each theorem. -/
import Derived.Test.YtpfhjdmgkckjfaaGreatDoorAOpenW5
import Derived.Test.YtpfhjdmgkckjfaaGreatDoorARtrC
import Derived.Test.YtpfhjdmgkckjfaaGreatDoorARvwC
import Derived.Test.YtpfhjdmgkckjfaaGreatDoorAHotR
namespace Go.Proofs.YtpfhjdmgkckjfaaGreatDoor
set_option linter.unusedVariables false
set_option linter.unusedSimpArgs false
set_option maxRecDepth 1000000
open Go.RowKit
open Um Tm Cm

/-- what lies in memory while weights are reckoned -/
structure Ws5 (w X : World) (a b c : Int) (v : Value) (ws : List Int) (ob : Nat) (ao : Option Addr) (ps : List Int) : Prop where
  f : FW X w.heap.size a b c v
  wb : WB X (w.heap.size + 1) ws
  r : ABx X (w.heap.size + 1 + 1) 29 zero24
  ps : ∃ pb po, ao = some ⟨pb, po, none⟩ ∧ pb < ob ∧ LiesI X pb po ps
  o : w.heap.size + 1 + 1 < ob
  b : Below w.heap.size w X
theorem WB.farW {w w1 : World} {b : Nat} {ws : List Int} {row : Option Nat} (h : WB w b ws) (hg : w.grownBy w1 row) (hne : some b ≠ row) : WB w1 b ws :=
  ⟨fun i x hx => hg.cell (h.h i x hx) hne, Nat.lt_of_lt_of_le h.lt hg.size⟩
theorem Ws5.later {w X Y : World} {a b c : Int} {v : Value} {ws : List Int} {ob : Nat} {ao : Option Addr} {ps : List Int} (h : Ws5 w X a b c v ws ob ao ps) (hb : Below X.heap.size X Y) : Ws5 w Y a b c v ws ob ao ps :=
  ⟨h.f.later hb, h.wb.later hb, h.r.later hb, by obtain ⟨pb, po, e, h1, h2⟩ := h.ps; exact ⟨pb, po, e, h1, h2.later hb⟩, h.o, h.b.trans (hb.mono h.b.size)⟩
theorem Ws5.far {w X Y : World} {a b c : Int} {v : Value} {ws : List Int} {ob : Nat} {ao : Option Addr} {ps : List Int} (h : Ws5 w X a b c v ws ob ao ps) (hg : X.grownBy Y (some ob)) : Ws5 w Y a b c v ws ob ao ps :=
  ⟨h.f.grown hg (fun e => by have := Option.some.inj e; have := h.o; omega), h.wb.farW hg (fun e => by have := Option.some.inj e; have := h.o; omega), h.r.grown hg (fun e => by have := Option.some.inj e; have := h.o; omega), by
    obtain ⟨pb, po, e, h1, h2⟩ := h.ps
    exact ⟨pb, po, e, h1, fun i x hx => hg.cell (h2 i x hx) (fun e => by have : pb = ob := Option.some.inj e; omega)⟩, h.o, h.b.grown hg h.b.size (fun j e => by cases e; have := h.o; omega)⟩
theorem belDG5 {w w1 : World} (h : Below w.drew.heap.size w.drew w1) : Below w.heap.size w w1 := ⟨h.os, h.tape, h.output, h.size, h.block⟩
theorem held4S {W w' : World} {b p o : Nat} {v u0 u1 u2 u3 : Value} (h : Below W.heap.size W w') (hne : b ≠ p) (hc : W.cell? ⟨b, o, none⟩ = some v) : ((((w'.setCell ⟨p, 0, none⟩ u0).setCell ⟨p, 1, none⟩ u1).setCell ⟨p, 2, none⟩ u2).setCell ⟨p, 3, none⟩ u3).cell? ⟨b, o, none⟩ = some v := (grown_setCells p [u0, u1, u2, u3] 0 w').cell (held_belowG h hc) (fun e => hne (Option.some.inj e))
theorem wsCells_last (Z : List Value) (ws : List Int) (x : Int) : (wsCells Z (ws ++ [x]))[ws.length]? = some (vi x) := by
  unfold wsCells
  rw [List.map_append, List.append_assoc, List.getElem?_append_right (by simp)]
  simp
theorem wsCells_again (Z : List Value) (ws : List Int) (x y : Int) : (wsCells Z (ws ++ [x])).set ws.length (vi y) = wsCells Z (ws ++ [y]) := by
  unfold wsCells
  rw [List.map_append, List.map_append, List.append_assoc, List.append_assoc, List.set_append_right _ _ (by simp)]
  simp
/-- the product of the first weights -/
def wpre (a b c : Int) (L : List Q) (ws : List Int) (l : Int) (u : Q) (ps : List Int) (i : Nat) : Int := wprod a b c L ws l u (ps.take i)
theorem wpre_succ {a b c : Int} {L : List Q} {ws : List Int} {l : Int} {u : Q} {ps : List Int} {i : Nat} {p : Int} (hp : ps[i]? = some p) : wpre a b c L ws l u ps (i + 1) = wpre a b c L ws l u ps i * wat ws (trp a b c L l u p) := by
  unfold wpre wprod
  have e : ps.take (i + 1) = ps.take i ++ [p] := by rw [List.take_add_one, hp]; rfl
  rw [e, List.map_append, List.foldl_append]
  rfl
theorem lk_set {L : List Q} {l i : Int} {u : Q} (h0 : 0 ≤ l) (h1 : l < (L.length : Int)) (i0 : 0 ≤ i) (i1 : i < (L.length : Int)) : lk (L.set l.toNat u) i = lkv L l u i := by
  have hg := lk_get (L := L.set l.toNat u) (i := i) i0 (by rw [List.length_set]; exact i1)
  rw [List.getElem?_set] at hg
  unfold lkv
  by_cases e : i = l
  · subst e
    rw [if_pos rfl, if_pos (by omega)] at hg
    rw [if_pos rfl]
    exact (Option.some.inj hg).symm
  · rw [if_neg (by omega), lk_get i0 i1] at hg
    rw [if_neg e]
    exact (Option.some.inj hg).symm
theorem sm_set {L : List Q} {u : Q} {n : Nat} (hL : ∀ x ∈ L, Sm x) (hu : Sm u) : ∀ x ∈ L.set n u, Sm x := fun x hx => by
  rcases List.mem_or_eq_of_mem_set hx with h | h
  · exact hL x h
  · rw [h]; exact hu
/-- the trace of a plaquette, where a link has a value -/
theorem traceV_any (a b c l p : Int) (u : Q) (bl off cap : Nat) (L : List Q) (w : World) (hl : Lies w bl off (L.set l.toNat u)) (hF : SmF a b c L) (hu : Sm u) (h0 : 0 ≤ l) (h1 : l < (L.length : Int)) (p0 : 0 ≤ p) (p1 : p < 3 * (a * b * c)) :
    Calls Tryz.prog 83 #[.agg #[.int .i64 a, .int .i64 b, .int .i64 c, .slice (some ⟨bl, off, none⟩) L.length cap], .int .i64 p] w fun e w' => e = .returned (.int .i64 (trp a b c L l u p)) ∧ Below w.heap.size w w' := by
  obtain ⟨x0, x1, x2, x3, hk, cL⟩ := links_ex a b c p hF.z p0 p1
  obtain ⟨_, _, _, _, _, _, _, hr⟩ := sides_eq hF.z p0 p1
  rw [hk] at hr
  have hn := hF.n
  have r0 := hr x0 (by simp)
  have r1 := hr x1 (by simp)
  have r2 := hr x2 (by simp)
  have r3 := hr x3 (by simp)
  have hls : (L.set l.toNat u).length = L.length := List.length_set
  have := refTrace_any a b c p bl off cap (L.set l.toNat u) x0 x1 x2 x3 w hl cL (by rw [hls]; omega) (by rw [hls]; omega) (by rw [hls]; omega) (by rw [hls]; omega) (sm_set hF.s hu)
  rw [hls, lk_set h0 h1 r0.1 (by omega), lk_set h0 h1 r1.1 (by omega), lk_set h0 h1 r2.1 (by omega), lk_set h0 h1 r3.1 (by omega)] at this
  have e : trp a b c L l u p = (tr (pr4 (lkv L l u x0) (lkv L l u x1) (lkv L l u x2) (lkv L l u x3))).1 := by
    unfold trp plv
    rw [hk]
  rw [e]
  exact this
set_option maxHeartbeats 12800000 in
theorem refWeights_any (a b c w0 w1 w2 w3 w4 l : Int) (bl off cap : Nat) (L : List Q) (w : World) (hl : Lies w bl off L) (hF : SmF a b c L) (hWO : WOk [w0, w1, w2, w3, w4]) (h0 : 0 ≤ l) (h1 : l < (L.length : Int)) : Calls Tryz.prog 44 #[.agg #[.int .i64 a, .int .i64 b, .int .i64 c, .slice (some ⟨bl, off, none⟩) L.length cap], .agg #[.int .i64 w0, .int .i64 w1, .int .i64 w2, .int .i64 w3, .int .i64 w4], .int .i64 l] w fun e w' => e = .returned (.agg (wsA a b c L [w0, w1, w2, w3, w4] l)) ∧ Below w.heap.size w w' := by
  have l3 : l < 3 * (a * b * c) := by have := hF.n; omega
  obtain ⟨hn1, hn4⟩ := thr_some hF.z h0 l3
  have hle := hF.le
  have c1 := fun (W : World) => refThroughS_ok a b c l W hF.z
  have cU := Lib.hid (fun (v : Nat) (hv : v < 24) (W : World) => unit5_any v W (by omega) (by omega))
  have cWi := Lib.hid (fun (u : Q) (W : World) (k : Lies W bl off L) => refWith_any a b c l u bl off cap L W k (by omega) (by omega) h0 h1)
  have cT := Lib.hid (fun (u : Q) (hu : Sm u) (g gk : Nat) (p : Int) (hp : 0 ≤ p ∧ p < 3 * (a * b * c)) (W : World) (k : Lies W g 0 (L.set l.toNat u)) => traceV_any a b c l p u g 0 gk L W k hF hu h0 h1 hp.1 hp.2)
  have HPS := Lib.hid (fun (i : Nat) (p : Int) (h : (thr a b c l)[i]? = some p) => thr_rng h)
  have HTR := Lib.hid (fun (u : Q) (hu : Sm u) (p : Int) (hp : 0 ≤ p ∧ p < 3 * (a * b * c)) => trp_rng (l := l) hF hp.1 hp.2 hu)
  have HWR := Lib.hid (fun (u : Q) (hu : Sm u) (i : Nat) (hi : i < (thr a b c l).length) => (show 1 ≤ wpre a b c L [w0, w1, w2, w3, w4] l u (thr a b c l) i ∧ wpre a b c L [w0, w1, w2, w3, w4] l u (thr a b c l) i ≤ 1000000 from by
    obtain ⟨k1, k2⟩ := wprod_rng (l := l) hF hWO hu (thr a b c l) (fun p hp => by obtain ⟨j, hj⟩ := List.getElem?_of_mem hp; exact thr_rng hj) i (by omega)
    refine ⟨k1, Int.le_trans k2 ?_⟩
    have : i = 0 ∨ i = 1 ∨ i = 2 ∨ i = 3 := by omega
    rcases this with rfl | rfl | rfl | rfl <;> decide))
  have HWO := Lib.hid hWO
  have H := Lib.hid hl
  have HLE := Lib.hid hle
  have HN := Lib.hid (And.intro hn1 hn4)
  have HK := Lib.hid (wsK_succ a b c L [w0, w1, w2, w3, w4] l (thr a b c l))
  have HKL := Lib.hid (wsK_len a b c L [w0, w1, w2, w3, w4] l (thr a b c l))
  have HK0 := Lib.hid (show wsK a b c L [w0, w1, w2, w3, w4] l (thr a b c l) 0 = [] from rfl)
  have HA := Lib.hid (show wsA a b c L [w0, w1, w2, w3, w4] l = ((wsK a b c L [w0, w1, w2, w3, w4] l (thr a b c l) 24).map vi).toArray from rfl)
  have f0 : FW (((w.alloc (.cells #[.int .i64 a, .int .i64 b, .int .i64 c, .slice (some ⟨bl, off, none⟩) L.length cap] 25)).alloc (.cells #[.int .i64 w0, .int .i64 w1, .int .i64 w2, .int .i64 w3, .int .i64 w4] 26)).alloc (.cells #[.int .i64 0, .int .i64 0, .int .i64 0, .int .i64 0, .int .i64 0, .int .i64 0, .int .i64 0, .int .i64 0, .int .i64 0, .int .i64 0, .int .i64 0, .int .i64 0, .int .i64 0, .int .i64 0, .int .i64 0, .int .i64 0, .int .i64 0, .int .i64 0, .int .i64 0, .int .i64 0, .int .i64 0, .int .i64 0, .int .i64 0, .int .i64 0] 29)) w.heap.size a b c (.slice (some ⟨bl, off, none⟩) L.length cap) := FW.n3a
  have wb0 : WB (((w.alloc (.cells #[.int .i64 a, .int .i64 b, .int .i64 c, .slice (some ⟨bl, off, none⟩) L.length cap] 25)).alloc (.cells #[.int .i64 w0, .int .i64 w1, .int .i64 w2, .int .i64 w3, .int .i64 w4] 26)).alloc (.cells #[.int .i64 0, .int .i64 0, .int .i64 0, .int .i64 0, .int .i64 0, .int .i64 0, .int .i64 0, .int .i64 0, .int .i64 0, .int .i64 0, .int .i64 0, .int .i64 0, .int .i64 0, .int .i64 0, .int .i64 0, .int .i64 0, .int .i64 0, .int .i64 0, .int .i64 0, .int .i64 0, .int .i64 0, .int .i64 0, .int .i64 0, .int .i64 0] 29)) (w.heap.size + 1) [w0, w1, w2, w3, w4] := five_at (by simp [go_sem]) (by simp [go_sem]) (by simp [go_sem]) (by simp [go_sem]) (by simp [go_sem])
  have tb00 := (ABx.news (w := (w.alloc (.cells #[.int .i64 a, .int .i64 b, .int .i64 c, .slice (some ⟨bl, off, none⟩) L.length cap] 25)).alloc (.cells #[.int .i64 w0, .int .i64 w1, .int .i64 w2, .int .i64 w3, .int .i64 w4] 26)) (T := 29) #[.int .i64 0, .int .i64 0, .int .i64 0, .int .i64 0, .int .i64 0, .int .i64 0, .int .i64 0, .int .i64 0, .int .i64 0, .int .i64 0, .int .i64 0, .int .i64 0, .int .i64 0, .int .i64 0, .int .i64 0, .int .i64 0, .int .i64 0, .int .i64 0, .int .i64 0, .int .i64 0, .int .i64 0, .int .i64 0, .int .i64 0, .int .i64 0])
  simp only [World.size_alloc] at tb00
  have F0 := Lib.hid f0
  have G0 := Lib.hid wb0
  have T0 := Lib.hid tb00
  clear f0 wb0 tb00 hl hF hWO h0 h1 l3 hle hn1 hn4
  go_enter Tryz.func44, Tryz.ntmps44
  go_wp2_with (fail)
  refine (c1 _).mono ?_
  rintro e y1 ⟨ao, kp, rfl, hps, hw1⟩
  have b1 : Below w.heap.size w y1 := ba3.trans (hw1.mono ba3.size)
  have F1 := Lib.hid (F0.out.later hw1)
  have G1 := Lib.hid (G0.out.later hw1)
  have T1 := Lib.hid (T0.out.later hw1)
  have B1 := Lib.hid b1
  have P1 : Hid (∃ pb po, ao = some ⟨pb, po, none⟩ ∧ pb < y1.heap.size ∧ LiesI y1 pb po (thr a b c l)) := Lib.hid (by
    rcases hps with h | ⟨pb, po, h, hl⟩
    · have := HN.out.1; rw [h] at this; simp at this
    · exact ⟨pb, po, h, World.block_lt_of_cell? _ _ (hl 0 _ (List.getElem?_eq_getElem (by have := HN.out.1; omega))), hl⟩)
  clear b1 hw1 hps F0 G0 T0 c1
  generalize thr a b c l = ps at *
  go_wp2
  have W1 : Hid (Ws5 w (y1.alloc (.cells #[.int .i64 0, .int .i64 0, .int .i64 0, .int .i64 0, .int .i64 0, .int .i64 0, .int .i64 0, .int .i64 0, .int .i64 0, .int .i64 0, .int .i64 0, .int .i64 0, .int .i64 0, .int .i64 0, .int .i64 0, .int .i64 0, .int .i64 0, .int .i64 0, .int .i64 0, .int .i64 0, .int .i64 0, .int .i64 0, .int .i64 0, .int .i64 0] 29)) a b c (.slice (some ⟨bl, off, none⟩) L.length cap) [w0, w1, w2, w3, w4] y1.heap.size ao ps) := Lib.hid ⟨F1.out.later ba1, G1.out.later ba1, T1.out.later ba1, by obtain ⟨pb, po, h1, h2, h3⟩ := P1.out; exact ⟨pb, po, h1, h2, h3.later ba1⟩, T1.out.lt, B1.out.trans (ba1.mono B1.out.size)⟩
  have TB : Hid (ABx (y1.alloc (.cells #[.int .i64 0, .int .i64 0, .int .i64 0, .int .i64 0, .int .i64 0, .int .i64 0, .int .i64 0, .int .i64 0, .int .i64 0, .int .i64 0, .int .i64 0, .int .i64 0, .int .i64 0, .int .i64 0, .int .i64 0, .int .i64 0, .int .i64 0, .int .i64 0, .int .i64 0, .int .i64 0, .int .i64 0, .int .i64 0, .int .i64 0, .int .i64 0] 29)) y1.heap.size 29 (wsCells zero24 (wsK a b c L [w0, w1, w2, w3, w4] l ps 0))) := Lib.hid (by rw [HK0.out, wsCells_nil]; exact ABx.news _)
  clear F1 G1 T1 B1 P1 HK0
  generalize y1.alloc (.cells #[.int .i64 0, .int .i64 0, .int .i64 0, .int .i64 0, .int .i64 0, .int .i64 0, .int .i64 0, .int .i64 0, .int .i64 0, .int .i64 0, .int .i64 0, .int .i64 0, .int .i64 0, .int .i64 0, .int .i64 0, .int .i64 0, .int .i64 0, .int .i64 0, .int .i64 0, .int .i64 0, .int .i64 0, .int .i64 0, .int .i64 0, .int .i64 0] 29) = X1 at *
  generalize y1.heap.size = ob at *
  go_wp2
  go_loopw [9] (fun q wr => ∃ v : Nat, v ≤ 24 ∧ q = .int .i64 v ∧ Hid (Ws5 w wr a b c (.slice (some ⟨bl, off, none⟩) L.length cap) [w0, w1, w2, w3, w4] ob ao ps) ∧ Hid (ABx wr ob 29 (wsCells zero24 (wsK a b c L [w0, w1, w2, w3, w4] l ps v)))) (fun q _ => 24 - (intOf q).toNat)
  case atStart => exact ⟨0, by omega, rfl, W1, TB⟩
  case round =>
    obtain ⟨v, hv, rfl, HW, HT⟩ := hrel
    clear W1 TB
    by_cases hlt : v < 24
    · have iv : (v : Int) < 24 := by omega
      have cU1 := cU.out v hlt
      have HU := Lib.hid (show Sm (small (v : Int)) from ⟨v, hlt, rfl⟩)
      have cW1 := cWi.out (small (v : Int))
      have cT1 := Lib.hid (cT.out (small (v : Int)) HU.out)
      have HT1 := Lib.hid (HTR.out (small (v : Int)) HU.out)
      have HW1 := Lib.hid (HWR.out (small (v : Int)) HU.out)
      have HKv := Lib.hid (HK.out v)
      have HKl := Lib.hid (HKL.out v)
      generalize small (v : Int) = u at *
      obtain ⟨f0, f1, f2, f3, ff, fl⟩ := HW.out.f
      have BW := HW.out.b
      have BWs := BW.size
      have K5 : Hid (∀ w' : World, Below wr.heap.size wr w' → (w'.cell? ⟨w.heap.size, 0, none⟩ = some (.int .i64 a) ∧ w'.cell? ⟨w.heap.size, 1, none⟩ = some (.int .i64 b) ∧ w'.cell? ⟨w.heap.size, 2, none⟩ = some (.int .i64 c) ∧ w'.cell? ⟨w.heap.size, 3, none⟩ = some (.slice (some ⟨bl, off, none⟩) L.length cap))) := Lib.hid (fun w' h => ⟨held_belowG h f0, held_belowG h f1, held_belowG h f2, held_belowG h f3⟩)
      have K6 : Hid (∀ (w' : World) (p : Nat) (u0 u1 u2 u3 : Value), Below wr.heap.size wr w' → w.heap.size ≠ p → (((((w'.setCell ⟨p, 0, none⟩ u0).setCell ⟨p, 1, none⟩ u1).setCell ⟨p, 2, none⟩ u2).setCell ⟨p, 3, none⟩ u3).cell? ⟨w.heap.size, 0, none⟩ = some (.int .i64 a) ∧ ((((w'.setCell ⟨p, 0, none⟩ u0).setCell ⟨p, 1, none⟩ u1).setCell ⟨p, 2, none⟩ u2).setCell ⟨p, 3, none⟩ u3).cell? ⟨w.heap.size, 1, none⟩ = some (.int .i64 b) ∧ ((((w'.setCell ⟨p, 0, none⟩ u0).setCell ⟨p, 1, none⟩ u1).setCell ⟨p, 2, none⟩ u2).setCell ⟨p, 3, none⟩ u3).cell? ⟨w.heap.size, 2, none⟩ = some (.int .i64 c) ∧ ((((w'.setCell ⟨p, 0, none⟩ u0).setCell ⟨p, 1, none⟩ u1).setCell ⟨p, 2, none⟩ u2).setCell ⟨p, 3, none⟩ u3).cell? ⟨w.heap.size, 3, none⟩ = some (.slice (some ⟨bl, off, none⟩) L.length cap))) := Lib.hid (fun w' p u0 u1 u2 u3 h hne => ⟨held4S h hne f0, held4S h hne f1, held4S h hne f2, held4S h hne f3⟩)
      have nA : w.heap.size ≠ wr.heap.size := Nat.ne_of_lt fl
      go_wp2_with (fail)
      go_region_held3 (fun w' => (w'.cell? ⟨w.heap.size, 0, none⟩ = some (.int .i64 a) ∧ w'.cell? ⟨w.heap.size, 1, none⟩ = some (.int .i64 b) ∧ w'.cell? ⟨w.heap.size, 2, none⟩ = some (.int .i64 c) ∧ w'.cell? ⟨w.heap.size, 3, none⟩ = some (.slice (some ⟨bl, off, none⟩) L.length cap)))
        (first
          | (with_reducible exact K6.out _ _ _ _ _ _ B6 nA)
          | (with_reducible exact K6.out _ _ _ _ _ _ B6 nB)
          | (with_reducible exact K5.out _ (B7 _))
          | (with_reducible exact K5.out _ B6)
          | (with_reducible exact K5.out _ (B5a _))
          | (with_reducible exact K5.out _ B5)
          | (with_reducible exact K5.out _ ba1)
          | (with_reducible exact K5.out _ (Below.refl _ _))
          | go_keep)
        (first
          | ((with_reducible refine (cU1 _).mono ?_); rintro e z5 ⟨rfl, hw5⟩; have B5 : Below wr.heap.size wr z5 := belDG5 hw5; have B5a : ∀ o, Below wr.heap.size wr (z5.alloc o) := (fun o => B5.trans (ba1.mono B5.size)); have nB : w.heap.size ≠ z5.heap.size := (Nat.ne_of_lt (Nat.lt_of_lt_of_le fl B5.size)))
          | ((with_reducible refine (cU1 _).mono ?_); rintro e z5 ⟨rfl, hw5⟩; have B5 : Below wr.heap.size wr z5 := bel1 (belDG5 hw5); have FZ := Lib.hid (FW.later FW.n1 (belDG5 hw5)))
          | ((with_reducible refine (cW1 _ (H.out.later (BW.trans (B5.mono BWs)))).mono ?_); rintro e z6 ⟨⟨g, gk, rfl, hg, hge⟩, hw6⟩; have Z6 := Lib.hid (FZ.out.later hw6); have zlt := FZ.out.lt; obtain ⟨z0, z1, z2, z3, zf, zl⟩ := Z6.out; have B6 := B5.trans (hw6.mono B5.size); have HG := Lib.hid hg; clear hg)
          | ((with_reducible refine (cW1 _ (H.out.later (BW.trans ((B5a _).mono BWs)))).mono ?_); rintro e z6 ⟨⟨g, gk, rfl, hg, hge⟩, hw6⟩; have Z6 := Lib.hid (FW.later FW.n1 hw6); obtain ⟨z0, z1, z2, z3, zf, zl⟩ := Z6.out; have B6 := B5.trans ((bel1 hw6).mono B5.size); have HG := Lib.hid hg; clear hg)
          | ((with_reducible refine (cW1 _ (H.out.later (BW.trans (B5.mono BWs)))).mono ?_); rintro e z6 ⟨⟨g, gk, rfl, hg, hge⟩, hw6⟩; have B6 := B5.trans (hw6.mono B5.size); have B7 : ∀ o, Below wr.heap.size wr (z6.alloc o) := (fun o => B6.trans (ba1.mono B6.size)); have HG := Lib.hid hg; clear hg))
      · have hol := HT.out.lt
        have NP := Lib.hid (show ob < z6.heap.size ∧ ob < g ∧ g ≠ z6.heap.size from by
          have h1 := HG.out.lt
          have h2 := B5.size
          have h3 := B6.size
          exact ⟨by omega, by omega, by omega⟩)
        have FY := Lib.hid (FW.n1 (w := z6) (x := a) (y := b) (z := c) (v := .slice (some ⟨g, 0, none⟩) L.length gk) (T := 25))
        have LY := Lib.hid (HG.out.later (ba1 (o := .cells #[.int .i64 a, .int .i64 b, .int .i64 c, .slice (some ⟨g, 0, none⟩) L.length gk] 25)))
        have BY := Lib.hid (B7 (.cells #[.int .i64 a, .int .i64 b, .int .i64 c, .slice (some ⟨g, 0, none⟩) L.length gk] 25))
        have WY := Lib.hid (HW.out.later BY.out)
        have TY := Lib.hid (HT.out.later BY.out)
        clear hw6 hw5 B5 B6 B7 B5a HG K5 K6 hge nB BY f0 f1 f2 f3 ff fl BW BWs nA hol HW HT cU1 cW1
        generalize z6.alloc (.cells #[.int .i64 a, .int .i64 b, .int .i64 c, .slice (some ⟨g, 0, none⟩) L.length gk] 25) = Y at *
        generalize z6.heap.size = P at *
        obtain ⟨v0, hv0⟩ := wsCells_at zero24 zeroWs (wsK a b c L [w0, w1, w2, w3, w4] l ps v) (by rw [HKl.out]; exact hlt)
        rw [HKl.out] at hv0
        have c0 := TY.out.cell v
        rw [hv0] at c0
        have cf := TY.out.free v
        have cl := TY.out.lt
        have HC0 := Lib.hid c0
        have HCF := Lib.hid cf
        have HCL := Lib.hid cl
        have G2 := grown_setCell Y ⟨ob, v, none⟩ (.int .i64 1)
        have T2 : Hid (ABx (Y.setCell ⟨ob, v, none⟩ (.int .i64 1)) ob 29 (wsCells zero24 (wsK a b c L [w0, w1, w2, w3, w4] l ps v ++ [wpre a b c L [w0, w1, w2, w3, w4] l u ps 0]))) := Lib.hid (by
          have h1 := TY.out.set v (.int .i64 1)
          have h2 := wsCells_put zero24 zeroWs (wsK a b c L [w0, w1, w2, w3, w4] l ps v) 1 (by rw [HKl.out]; exact hlt)
          rw [HKl.out] at h2
          change (wsCells zero24 _).set v (.int .i64 1) = _ at h2
          rw [h2] at h1
          exact h1)
        have W2 := Lib.hid (WY.out.far G2)
        have F2 := Lib.hid (FY.out.grown G2 (fun e => by have : P = ob := Option.some.inj e; have := NP.out.1; omega))
        have L2 := Lib.hid (LY.out.grown G2 (fun e => by have : g = ob := Option.some.inj e; have := NP.out.2.1; omega))
        clear G2 WY TY FY LY hv0 c0 cf cl
        have c0 := HC0.out
        have cf := HCF.out
        have cl := HCL.out
        go_wp2
        clear c0 cf cl HC0 HCF HCL
        generalize Y.setCell ⟨ob, v, none⟩ (.int .i64 1) = Y2 at *
        go_loopw [11] (fun q wr => ∃ i : Nat, i ≤ ps.length ∧ q = .int .i64 i ∧ Hid (Ws5 w wr a b c (.slice (some ⟨bl, off, none⟩) L.length cap) [w0, w1, w2, w3, w4] ob ao ps) ∧ Hid (ABx wr ob 29 (wsCells zero24 (wsK a b c L [w0, w1, w2, w3, w4] l ps v ++ [wpre a b c L [w0, w1, w2, w3, w4] l u ps i]))) ∧ Hid (FW wr P a b c (.slice (some ⟨g, 0, none⟩) L.length gk)) ∧ Hid (LBox wr g (L.set l.toNat u))) (fun q _ => ps.length - (intOf q).toNat)
        case atStart => exact ⟨0, by omega, rfl, W2, T2, F2, L2⟩
        case round =>
          obtain ⟨i, hi, rfl, HWi, HTi, HFi, HLi⟩ := hrel
          clear W2 T2 F2 L2
          by_cases hilt : i < ps.length
          · have ii : (i : Int) < (ps.length : Int) := by omega
            obtain ⟨p, hp⟩ : ∃ p, ps[i]? = some p := ⟨_, List.getElem?_eq_getElem hilt⟩
            have hpr := HPS.out i p hp
            obtain ⟨t1, t2⟩ := HT1.out p hpr
            have hS := wpre_succ (a := a) (b := b) (c := c) (L := L) (ws := [w0, w1, w2, w3, w4]) (l := l) (u := u) hp
            obtain ⟨x1, x2⟩ := HW1.out i hilt
            obtain ⟨g1, g2, g3⟩ := wat_rng HWO.out t1 t2
            have cp := cT1.out g gk p hpr
            generalize trp a b c L l u p = t at *
            generalize wat [w0, w1, w2, w3, w4] t = wt at *
            generalize wpre a b c L [w0, w1, w2, w3, w4] l u ps i = X at *
            have HS := Lib.hid hS
            obtain ⟨pb, po, hao, hpb, hli⟩ := HWi.out.ps
            have HPB := Lib.hid hao
            have cps := hli i p hp
            have cw := HWi.out.wb.h _ _ g1
            have lw := HWi.out.wb.lt
            have lps := World.block_lt_of_cell? _ _ cps
            have hlast := wsCells_last zero24 (wsK a b c L [w0, w1, w2, w3, w4] l ps v) X
            rw [HKl.out] at hlast
            have c0 := HTi.out.cell v
            rw [hlast] at c0
            change _ = some (Value.int .i64 X) at c0
            have cf := HTi.out.free v
            have cl := HTi.out.lt
            obtain ⟨f0, f1, f2, f3, ff, fl⟩ := HFi.out
            have LB := HLi.out.h
            have e1 : IntKind.i64.wrap (t + 2) = t + 2 := IntWalk.i64_in _ (by omega)
            have hm1 : 0 ≤ X * wt := Int.mul_nonneg (by omega) (by omega)
            have hm2 : X * wt ≤ 1000000 * 100 := Int.mul_le_mul x2 g3 (by omega) (by decide)
            have e2 : IntKind.i64.wrap (X * wt) = X * wt := IntWalk.i64_in _ (by omega)
            have HL := Lib.hid hlast
            subst hao
            clear hp hpr hS hli hlast hm1 hm2 g1 g2 g3 x1 x2 hpb
            go_wp2_with (fail)
            refine Tail.region_tail_below 14 (by kernel_rfl) (by kernel_rfl) ?_
            simp only [List.take_succ_cons, List.take_zero, List.drop_succ_cons, List.drop_zero]
            have kc := @Tail.cell_re
            repeat (go_big_quiet_step (first | (with_reducible exact Calls.regrown_of (cp _ (lies_re LB _ _)))))
            refine wpQuiet_nil ?_
            intro z8 hz8
            have W8 := Lib.hid (HWi.out.later hz8)
            have T8 := Lib.hid (HTi.out.later hz8)
            have F8 := Lib.hid (HFi.out.later hz8)
            have L8 := Lib.hid (HLi.out.later hz8)
            clear hz8 HWi HTi HFi HLi cps cw lw lps c0 cf cl f0 f1 f2 f3 ff fl LB kc cp
            have c0 := T8.out.cell v
            rw [HL.out] at c0
            have cf := T8.out.free v
            have cl := T8.out.lt
            have G2 := grown_setCell z8 ⟨ob, v, none⟩ (.int .i64 (X * wt))
            have T9 : Hid (ABx (z8.setCell ⟨ob, v, none⟩ (.int .i64 (X * wt))) ob 29 (wsCells zero24 (wsK a b c L [w0, w1, w2, w3, w4] l ps v ++ [wpre a b c L [w0, w1, w2, w3, w4] l u ps (i + 1)]))) := Lib.hid (by
              have h1 := T8.out.set v (.int .i64 (X * wt))
              have h2 := wsCells_again zero24 (wsK a b c L [w0, w1, w2, w3, w4] l ps v) X (X * wt)
              rw [HKl.out] at h2
              change (wsCells zero24 _).set v (.int .i64 (X * wt)) = _ at h2
              rw [h2] at h1
              rw [HS.out]
              exact h1)
            have W9 := Lib.hid (W8.out.far G2)
            have F9 := Lib.hid (F8.out.grown G2 (fun e => by have : P = ob := Option.some.inj e; have := NP.out.1; omega))
            have L9 := Lib.hid (L8.out.grown G2 (fun e => by have : g = ob := Option.some.inj e; have := NP.out.2.1; omega))
            have hp4 := HN.out.2
            clear G2 W8 T8 F8 L8
            go_wp2
            exact ⟨⟨i + 1, by omega, by go_num, W9, T9, F9, L9⟩, by simp [intOf]; omega⟩
          · obtain rfl : i = ps.length := by omega
            have TN : Hid (ABx wr ob 29 (wsCells zero24 (wsK a b c L [w0, w1, w2, w3, w4] l ps (v + 1)))) := Lib.hid (by
              rw [HKv.out]
              have := HTi.out
              unfold wpre at this
              rw [List.take_length] at this
              exact this)
            clear HTi HFi HLi
            go_wp2
            exact ⟨⟨v + 1, by omega, by go_num, HWi, TN⟩, by simp [intOf]; omega⟩
      · have hol := HT.out.lt
        have NP := Lib.hid (show ob < z5.heap.size ∧ ob < g ∧ g ≠ z5.heap.size from by
          have h2 := B5.size
          simp at hge
          exact ⟨by omega, by omega, by omega⟩)
        have gX := grown4 (w := z6) z5.heap.size (.int .i64 a) (.int .i64 b) (.int .i64 c) (.slice (some ⟨g, 0, none⟩) L.length gk)
        have FY : Hid (FW (((((z6.setCell ⟨z5.heap.size, 0, none⟩ (.int .i64 a)).setCell ⟨z5.heap.size, 1, none⟩ (.int .i64 b)).setCell ⟨z5.heap.size, 2, none⟩ (.int .i64 c)).setCell ⟨z5.heap.size, 3, none⟩ (.slice (some ⟨g, 0, none⟩) L.length gk))) z5.heap.size a b c (.slice (some ⟨g, 0, none⟩) L.length gk)) := Lib.hid (Z6.out.set4 a b c _)
        have LY : Hid (LBox (((((z6.setCell ⟨z5.heap.size, 0, none⟩ (.int .i64 a)).setCell ⟨z5.heap.size, 1, none⟩ (.int .i64 b)).setCell ⟨z5.heap.size, 2, none⟩ (.int .i64 c)).setCell ⟨z5.heap.size, 3, none⟩ (.slice (some ⟨g, 0, none⟩) L.length gk))) g (L.set l.toNat u)) := Lib.hid (HG.out.grown gX (fun e => NP.out.2.2 (Option.some.inj e)))
        have BY : Hid (Below wr.heap.size wr (((((z6.setCell ⟨z5.heap.size, 0, none⟩ (.int .i64 a)).setCell ⟨z5.heap.size, 1, none⟩ (.int .i64 b)).setCell ⟨z5.heap.size, 2, none⟩ (.int .i64 c)).setCell ⟨z5.heap.size, 3, none⟩ (.slice (some ⟨g, 0, none⟩) L.length gk)))) := Lib.hid (B6.grown gX B6.size (fun j e => by cases e; exact B5.size))
        have WY := Lib.hid (HW.out.later BY.out)
        have TY := Lib.hid (HT.out.later BY.out)
        clear hw6 hw5 B5 B6 B5a HG K5 K6 hge nB BY f0 f1 f2 f3 ff fl BW BWs nA hol HW HT cU1 cW1 gX z0 z1 z2 z3 zf zl Z6
        generalize ((((z6.setCell ⟨z5.heap.size, 0, none⟩ (.int .i64 a)).setCell ⟨z5.heap.size, 1, none⟩ (.int .i64 b)).setCell ⟨z5.heap.size, 2, none⟩ (.int .i64 c)).setCell ⟨z5.heap.size, 3, none⟩ (.slice (some ⟨g, 0, none⟩) L.length gk)) = Y at *
        generalize z5.heap.size = P at *
        obtain ⟨v0, hv0⟩ := wsCells_at zero24 zeroWs (wsK a b c L [w0, w1, w2, w3, w4] l ps v) (by rw [HKl.out]; exact hlt)
        rw [HKl.out] at hv0
        have c0 := TY.out.cell v
        rw [hv0] at c0
        have cf := TY.out.free v
        have cl := TY.out.lt
        have HC0 := Lib.hid c0
        have HCF := Lib.hid cf
        have HCL := Lib.hid cl
        have G2 := grown_setCell Y ⟨ob, v, none⟩ (.int .i64 1)
        have T2 : Hid (ABx (Y.setCell ⟨ob, v, none⟩ (.int .i64 1)) ob 29 (wsCells zero24 (wsK a b c L [w0, w1, w2, w3, w4] l ps v ++ [wpre a b c L [w0, w1, w2, w3, w4] l u ps 0]))) := Lib.hid (by
          have h1 := TY.out.set v (.int .i64 1)
          have h2 := wsCells_put zero24 zeroWs (wsK a b c L [w0, w1, w2, w3, w4] l ps v) 1 (by rw [HKl.out]; exact hlt)
          rw [HKl.out] at h2
          change (wsCells zero24 _).set v (.int .i64 1) = _ at h2
          rw [h2] at h1
          exact h1)
        have W2 := Lib.hid (WY.out.far G2)
        have F2 := Lib.hid (FY.out.grown G2 (fun e => by have : P = ob := Option.some.inj e; have := NP.out.1; omega))
        have L2 := Lib.hid (LY.out.grown G2 (fun e => by have : g = ob := Option.some.inj e; have := NP.out.2.1; omega))
        clear G2 WY TY FY LY hv0 c0 cf cl
        have c0 := HC0.out
        have cf := HCF.out
        have cl := HCL.out
        go_wp2
        clear c0 cf cl HC0 HCF HCL
        generalize Y.setCell ⟨ob, v, none⟩ (.int .i64 1) = Y2 at *
        go_loopw [11] (fun q wr => ∃ i : Nat, i ≤ ps.length ∧ q = .int .i64 i ∧ Hid (Ws5 w wr a b c (.slice (some ⟨bl, off, none⟩) L.length cap) [w0, w1, w2, w3, w4] ob ao ps) ∧ Hid (ABx wr ob 29 (wsCells zero24 (wsK a b c L [w0, w1, w2, w3, w4] l ps v ++ [wpre a b c L [w0, w1, w2, w3, w4] l u ps i]))) ∧ Hid (FW wr P a b c (.slice (some ⟨g, 0, none⟩) L.length gk)) ∧ Hid (LBox wr g (L.set l.toNat u))) (fun q _ => ps.length - (intOf q).toNat)
        case atStart => exact ⟨0, by omega, rfl, W2, T2, F2, L2⟩
        case round =>
          obtain ⟨i, hi, rfl, HWi, HTi, HFi, HLi⟩ := hrel
          clear W2 T2 F2 L2
          by_cases hilt : i < ps.length
          · have ii : (i : Int) < (ps.length : Int) := by omega
            obtain ⟨p, hp⟩ : ∃ p, ps[i]? = some p := ⟨_, List.getElem?_eq_getElem hilt⟩
            have hpr := HPS.out i p hp
            obtain ⟨t1, t2⟩ := HT1.out p hpr
            have hS := wpre_succ (a := a) (b := b) (c := c) (L := L) (ws := [w0, w1, w2, w3, w4]) (l := l) (u := u) hp
            obtain ⟨x1, x2⟩ := HW1.out i hilt
            obtain ⟨g1, g2, g3⟩ := wat_rng HWO.out t1 t2
            have cp := cT1.out g gk p hpr
            generalize trp a b c L l u p = t at *
            generalize wat [w0, w1, w2, w3, w4] t = wt at *
            generalize wpre a b c L [w0, w1, w2, w3, w4] l u ps i = X at *
            have HS := Lib.hid hS
            obtain ⟨pb, po, hao, hpb, hli⟩ := HWi.out.ps
            have HPB := Lib.hid hao
            have cps := hli i p hp
            have cw := HWi.out.wb.h _ _ g1
            have lw := HWi.out.wb.lt
            have lps := World.block_lt_of_cell? _ _ cps
            have hlast := wsCells_last zero24 (wsK a b c L [w0, w1, w2, w3, w4] l ps v) X
            rw [HKl.out] at hlast
            have c0 := HTi.out.cell v
            rw [hlast] at c0
            change _ = some (Value.int .i64 X) at c0
            have cf := HTi.out.free v
            have cl := HTi.out.lt
            obtain ⟨f0, f1, f2, f3, ff, fl⟩ := HFi.out
            have LB := HLi.out.h
            have e1 : IntKind.i64.wrap (t + 2) = t + 2 := IntWalk.i64_in _ (by omega)
            have hm1 : 0 ≤ X * wt := Int.mul_nonneg (by omega) (by omega)
            have hm2 : X * wt ≤ 1000000 * 100 := Int.mul_le_mul x2 g3 (by omega) (by decide)
            have e2 : IntKind.i64.wrap (X * wt) = X * wt := IntWalk.i64_in _ (by omega)
            have HL := Lib.hid hlast
            subst hao
            clear hp hpr hS hli hlast hm1 hm2 g1 g2 g3 x1 x2 hpb
            go_wp2_with (fail)
            refine Tail.region_tail_below 14 (by kernel_rfl) (by kernel_rfl) ?_
            simp only [List.take_succ_cons, List.take_zero, List.drop_succ_cons, List.drop_zero]
            have kc := @Tail.cell_re
            repeat (go_big_quiet_step (first | (with_reducible exact Calls.regrown_of (cp _ (lies_re LB _ _)))))
            refine wpQuiet_nil ?_
            intro z8 hz8
            have W8 := Lib.hid (HWi.out.later hz8)
            have T8 := Lib.hid (HTi.out.later hz8)
            have F8 := Lib.hid (HFi.out.later hz8)
            have L8 := Lib.hid (HLi.out.later hz8)
            clear hz8 HWi HTi HFi HLi cps cw lw lps c0 cf cl f0 f1 f2 f3 ff fl LB kc cp
            have c0 := T8.out.cell v
            rw [HL.out] at c0
            have cf := T8.out.free v
            have cl := T8.out.lt
            have G2 := grown_setCell z8 ⟨ob, v, none⟩ (.int .i64 (X * wt))
            have T9 : Hid (ABx (z8.setCell ⟨ob, v, none⟩ (.int .i64 (X * wt))) ob 29 (wsCells zero24 (wsK a b c L [w0, w1, w2, w3, w4] l ps v ++ [wpre a b c L [w0, w1, w2, w3, w4] l u ps (i + 1)]))) := Lib.hid (by
              have h1 := T8.out.set v (.int .i64 (X * wt))
              have h2 := wsCells_again zero24 (wsK a b c L [w0, w1, w2, w3, w4] l ps v) X (X * wt)
              rw [HKl.out] at h2
              change (wsCells zero24 _).set v (.int .i64 (X * wt)) = _ at h2
              rw [h2] at h1
              rw [HS.out]
              exact h1)
            have W9 := Lib.hid (W8.out.far G2)
            have F9 := Lib.hid (F8.out.grown G2 (fun e => by have : P = ob := Option.some.inj e; have := NP.out.1; omega))
            have L9 := Lib.hid (L8.out.grown G2 (fun e => by have : g = ob := Option.some.inj e; have := NP.out.2.1; omega))
            have hp4 := HN.out.2
            clear G2 W8 T8 F8 L8
            go_wp2
            exact ⟨⟨i + 1, by omega, by go_num, W9, T9, F9, L9⟩, by simp [intOf]; omega⟩
          · obtain rfl : i = ps.length := by omega
            have TN : Hid (ABx wr ob 29 (wsCells zero24 (wsK a b c L [w0, w1, w2, w3, w4] l ps (v + 1)))) := Lib.hid (by
              rw [HKv.out]
              have := HTi.out
              unfold wpre at this
              rw [List.take_length] at this
              exact this)
            clear HTi HFi HLi
            go_wp2
            exact ⟨⟨v + 1, by omega, by go_num, HWi, TN⟩, by simp [intOf]; omega⟩
      · have hol := HT.out.lt
        have NP := Lib.hid (show ob < wr.heap.size ∧ ob < g ∧ g ≠ wr.heap.size from by
          have h2 := B5.size
          have h4 := zlt
          exact ⟨by omega, by omega, by omega⟩)
        have gX := grown4 (w := z6) wr.heap.size (.int .i64 a) (.int .i64 b) (.int .i64 c) (.slice (some ⟨g, 0, none⟩) L.length gk)
        have FY : Hid (FW (((((z6.setCell ⟨wr.heap.size, 0, none⟩ (.int .i64 a)).setCell ⟨wr.heap.size, 1, none⟩ (.int .i64 b)).setCell ⟨wr.heap.size, 2, none⟩ (.int .i64 c)).setCell ⟨wr.heap.size, 3, none⟩ (.slice (some ⟨g, 0, none⟩) L.length gk))) wr.heap.size a b c (.slice (some ⟨g, 0, none⟩) L.length gk)) := Lib.hid (Z6.out.set4 a b c _)
        have LY : Hid (LBox (((((z6.setCell ⟨wr.heap.size, 0, none⟩ (.int .i64 a)).setCell ⟨wr.heap.size, 1, none⟩ (.int .i64 b)).setCell ⟨wr.heap.size, 2, none⟩ (.int .i64 c)).setCell ⟨wr.heap.size, 3, none⟩ (.slice (some ⟨g, 0, none⟩) L.length gk))) g (L.set l.toNat u)) := Lib.hid (HG.out.grown gX (fun e => NP.out.2.2 (Option.some.inj e)))
        have BY : Hid (Below wr.heap.size wr (((((z6.setCell ⟨wr.heap.size, 0, none⟩ (.int .i64 a)).setCell ⟨wr.heap.size, 1, none⟩ (.int .i64 b)).setCell ⟨wr.heap.size, 2, none⟩ (.int .i64 c)).setCell ⟨wr.heap.size, 3, none⟩ (.slice (some ⟨g, 0, none⟩) L.length gk)))) := Lib.hid (B6.grown gX B6.size (fun j e => by cases e; exact Nat.le_refl _))
        have WY := Lib.hid (HW.out.later BY.out)
        have TY := Lib.hid (HT.out.later BY.out)
        clear hw6 hw5 B5 B6 HG K5 K6 hge BY f0 f1 f2 f3 ff fl BW BWs nA hol HW HT cU1 cW1 gX z0 z1 z2 z3 zf zl Z6 FZ zlt
        generalize ((((z6.setCell ⟨wr.heap.size, 0, none⟩ (.int .i64 a)).setCell ⟨wr.heap.size, 1, none⟩ (.int .i64 b)).setCell ⟨wr.heap.size, 2, none⟩ (.int .i64 c)).setCell ⟨wr.heap.size, 3, none⟩ (.slice (some ⟨g, 0, none⟩) L.length gk)) = Y at *
        generalize wr.heap.size = P at *
        obtain ⟨v0, hv0⟩ := wsCells_at zero24 zeroWs (wsK a b c L [w0, w1, w2, w3, w4] l ps v) (by rw [HKl.out]; exact hlt)
        rw [HKl.out] at hv0
        have c0 := TY.out.cell v
        rw [hv0] at c0
        have cf := TY.out.free v
        have cl := TY.out.lt
        have HC0 := Lib.hid c0
        have HCF := Lib.hid cf
        have HCL := Lib.hid cl
        have G2 := grown_setCell Y ⟨ob, v, none⟩ (.int .i64 1)
        have T2 : Hid (ABx (Y.setCell ⟨ob, v, none⟩ (.int .i64 1)) ob 29 (wsCells zero24 (wsK a b c L [w0, w1, w2, w3, w4] l ps v ++ [wpre a b c L [w0, w1, w2, w3, w4] l u ps 0]))) := Lib.hid (by
          have h1 := TY.out.set v (.int .i64 1)
          have h2 := wsCells_put zero24 zeroWs (wsK a b c L [w0, w1, w2, w3, w4] l ps v) 1 (by rw [HKl.out]; exact hlt)
          rw [HKl.out] at h2
          change (wsCells zero24 _).set v (.int .i64 1) = _ at h2
          rw [h2] at h1
          exact h1)
        have W2 := Lib.hid (WY.out.far G2)
        have F2 := Lib.hid (FY.out.grown G2 (fun e => by have : P = ob := Option.some.inj e; have := NP.out.1; omega))
        have L2 := Lib.hid (LY.out.grown G2 (fun e => by have : g = ob := Option.some.inj e; have := NP.out.2.1; omega))
        clear G2 WY TY FY LY hv0 c0 cf cl
        have c0 := HC0.out
        have cf := HCF.out
        have cl := HCL.out
        go_wp2
        clear c0 cf cl HC0 HCF HCL
        generalize Y.setCell ⟨ob, v, none⟩ (.int .i64 1) = Y2 at *
        go_loopw [11] (fun q wr => ∃ i : Nat, i ≤ ps.length ∧ q = .int .i64 i ∧ Hid (Ws5 w wr a b c (.slice (some ⟨bl, off, none⟩) L.length cap) [w0, w1, w2, w3, w4] ob ao ps) ∧ Hid (ABx wr ob 29 (wsCells zero24 (wsK a b c L [w0, w1, w2, w3, w4] l ps v ++ [wpre a b c L [w0, w1, w2, w3, w4] l u ps i]))) ∧ Hid (FW wr P a b c (.slice (some ⟨g, 0, none⟩) L.length gk)) ∧ Hid (LBox wr g (L.set l.toNat u))) (fun q _ => ps.length - (intOf q).toNat)
        case atStart => exact ⟨0, by omega, rfl, W2, T2, F2, L2⟩
        case round =>
          obtain ⟨i, hi, rfl, HWi, HTi, HFi, HLi⟩ := hrel
          clear W2 T2 F2 L2
          by_cases hilt : i < ps.length
          · have ii : (i : Int) < (ps.length : Int) := by omega
            obtain ⟨p, hp⟩ : ∃ p, ps[i]? = some p := ⟨_, List.getElem?_eq_getElem hilt⟩
            have hpr := HPS.out i p hp
            obtain ⟨t1, t2⟩ := HT1.out p hpr
            have hS := wpre_succ (a := a) (b := b) (c := c) (L := L) (ws := [w0, w1, w2, w3, w4]) (l := l) (u := u) hp
            obtain ⟨x1, x2⟩ := HW1.out i hilt
            obtain ⟨g1, g2, g3⟩ := wat_rng HWO.out t1 t2
            have cp := cT1.out g gk p hpr
            generalize trp a b c L l u p = t at *
            generalize wat [w0, w1, w2, w3, w4] t = wt at *
            generalize wpre a b c L [w0, w1, w2, w3, w4] l u ps i = X at *
            have HS := Lib.hid hS
            obtain ⟨pb, po, hao, hpb, hli⟩ := HWi.out.ps
            have HPB := Lib.hid hao
            have cps := hli i p hp
            have cw := HWi.out.wb.h _ _ g1
            have lw := HWi.out.wb.lt
            have lps := World.block_lt_of_cell? _ _ cps
            have hlast := wsCells_last zero24 (wsK a b c L [w0, w1, w2, w3, w4] l ps v) X
            rw [HKl.out] at hlast
            have c0 := HTi.out.cell v
            rw [hlast] at c0
            change _ = some (Value.int .i64 X) at c0
            have cf := HTi.out.free v
            have cl := HTi.out.lt
            obtain ⟨f0, f1, f2, f3, ff, fl⟩ := HFi.out
            have LB := HLi.out.h
            have e1 : IntKind.i64.wrap (t + 2) = t + 2 := IntWalk.i64_in _ (by omega)
            have hm1 : 0 ≤ X * wt := Int.mul_nonneg (by omega) (by omega)
            have hm2 : X * wt ≤ 1000000 * 100 := Int.mul_le_mul x2 g3 (by omega) (by decide)
            have e2 : IntKind.i64.wrap (X * wt) = X * wt := IntWalk.i64_in _ (by omega)
            have HL := Lib.hid hlast
            subst hao
            clear hp hpr hS hli hlast hm1 hm2 g1 g2 g3 x1 x2 hpb
            go_wp2_with (fail)
            refine Tail.region_tail_below 14 (by kernel_rfl) (by kernel_rfl) ?_
            simp only [List.take_succ_cons, List.take_zero, List.drop_succ_cons, List.drop_zero]
            have kc := @Tail.cell_re
            repeat (go_big_quiet_step (first | (with_reducible exact Calls.regrown_of (cp _ (lies_re LB _ _)))))
            refine wpQuiet_nil ?_
            intro z8 hz8
            have W8 := Lib.hid (HWi.out.later hz8)
            have T8 := Lib.hid (HTi.out.later hz8)
            have F8 := Lib.hid (HFi.out.later hz8)
            have L8 := Lib.hid (HLi.out.later hz8)
            clear hz8 HWi HTi HFi HLi cps cw lw lps c0 cf cl f0 f1 f2 f3 ff fl LB kc cp
            have c0 := T8.out.cell v
            rw [HL.out] at c0
            have cf := T8.out.free v
            have cl := T8.out.lt
            have G2 := grown_setCell z8 ⟨ob, v, none⟩ (.int .i64 (X * wt))
            have T9 : Hid (ABx (z8.setCell ⟨ob, v, none⟩ (.int .i64 (X * wt))) ob 29 (wsCells zero24 (wsK a b c L [w0, w1, w2, w3, w4] l ps v ++ [wpre a b c L [w0, w1, w2, w3, w4] l u ps (i + 1)]))) := Lib.hid (by
              have h1 := T8.out.set v (.int .i64 (X * wt))
              have h2 := wsCells_again zero24 (wsK a b c L [w0, w1, w2, w3, w4] l ps v) X (X * wt)
              rw [HKl.out] at h2
              change (wsCells zero24 _).set v (.int .i64 (X * wt)) = _ at h2
              rw [h2] at h1
              rw [HS.out]
              exact h1)
            have W9 := Lib.hid (W8.out.far G2)
            have F9 := Lib.hid (F8.out.grown G2 (fun e => by have : P = ob := Option.some.inj e; have := NP.out.1; omega))
            have L9 := Lib.hid (L8.out.grown G2 (fun e => by have : g = ob := Option.some.inj e; have := NP.out.2.1; omega))
            have hp4 := HN.out.2
            clear G2 W8 T8 F8 L8
            go_wp2
            exact ⟨⟨i + 1, by omega, by go_num, W9, T9, F9, L9⟩, by simp [intOf]; omega⟩
          · obtain rfl : i = ps.length := by omega
            have TN : Hid (ABx wr ob 29 (wsCells zero24 (wsK a b c L [w0, w1, w2, w3, w4] l ps (v + 1)))) := Lib.hid (by
              rw [HKv.out]
              have := HTi.out
              unfold wpre at this
              rw [List.take_length] at this
              exact this)
            clear HTi HFi HLi
            go_wp2
            exact ⟨⟨v + 1, by omega, by go_num, HWi, TN⟩, by simp [intOf]; omega⟩
    · obtain rfl : v = 24 := by omega
      have TB := HT.out
      rw [wsCells_all zero24 zeroWs _ (HKL.out 24)] at TB
      have tbh := TB.h
      have rbh := HW.out.r.h
      have hbb := HW.out.b
      have hsz : (Tryz.prog.info? 29).map (·.size) = some (wsA a b c L [w0, w1, w2, w3, w4] l).size := by rw [wsA_sz]; exact infoWs
      have hzs : zero24.toArray.size = (wsA a b c L [w0, w1, w2, w3, w4] l).size := by rw [wsA_sz, List.size_toArray]; exact zeroWs
      have hone := wsA_one a b c L [w0, w1, w2, w3, w4] l
      change wr.heap[ob]? = some (.cells ((wsK a b c L [w0, w1, w2, w3, w4] l ps 24).map vi).toArray 29 (0, 0)) at tbh
      rw [← HA.out] at tbh
      have TBH := Lib.hid tbh
      have RBH := Lib.hid rbh
      have HBB := Lib.hid hbb
      have HS2 := Lib.hid hsz
      have HZS := Lib.hid hzs
      have HONE := Lib.hid hone
      clear TB tbh rbh hbb hsz hzs hone HW HT
      generalize hV : wsA a b c L [w0, w1, w2, w3, w4] l = V at *
      have HV := Lib.hid hV
      clear hV
      go_wp2_with (first | (refine wpList_load_row rfl 29 (.tmp 8) rfl ob rfl 29 V (0, 0) _ TBH.out Tryz.underlying29 rfl HS2.out ?_) | (refine wpList_store_row rfl 29 (.tmp 6) (.tmp 47) rfl (w.heap.size + 1 + 1) V rfl rfl 29 zero24.toArray RBH.out HS2.out HZS.out HONE.out ?_))
      have G1 := grown_setRow wr (w.heap.size + 1 + 1) V
      have hh := setRow_heap wr (w.heap.size + 1 + 1) zero24.toArray V 29 (0, 0) RBH.out
      have hbb := HBB.out
      refine bodyPost_ret (v := .agg V) ?_ rfl ⟨by rw [HV.out], hbb.grown G1 hbb.size (fun i hi => by simp at hi; omega)⟩
      simp [results, Tryz.results44, asAddr, Act.put, run_loadVar_row _ _ _ _ _ _ _ hh Tryz.underlying29 rfl HS2.out]
end Go.Proofs.YtpfhjdmgkckjfaaGreatDoor
