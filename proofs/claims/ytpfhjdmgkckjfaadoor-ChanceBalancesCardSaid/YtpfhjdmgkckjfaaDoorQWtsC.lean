/- Weights: the weights of the values of a link, as the program makes them.
Conditions: those written at each theorem; the variable steps holds what the program's text lays. -/
import Derived.Test.YtpfhjdmgkckjfaaDoorQChkC
import Derived.Test.YtpfhjdmgkckjfaaDoorQWlkA
namespace Go.Proofs.YtpfhjdmgkckjfaaDoor
set_option linter.unusedVariables false
set_option linter.unusedSimpArgs false
set_option maxRecDepth 1000000
open Go.RowKit
open Um Tm Cm

theorem ws24_one : (#[.int .i64 0, .int .i64 0, .int .i64 0, .int .i64 0, .int .i64 0, .int .i64 0, .int .i64 0, .int .i64 0, .int .i64 0, .int .i64 0, .int .i64 0, .int .i64 0, .int .i64 0, .int .i64 0, .int .i64 0, .int .i64 0, .int .i64 0, .int .i64 0, .int .i64 0, .int .i64 0, .int .i64 0, .int .i64 0, .int .i64 0, .int .i64 0] : Array Value).all (·.oneCell') = true := by rw [← zero24_eq]; exact wsOne _
theorem ws24_sz : (Tryd.prog.info? 31).map (·.size) = some (#[.int .i64 0, .int .i64 0, .int .i64 0, .int .i64 0, .int .i64 0, .int .i64 0, .int .i64 0, .int .i64 0, .int .i64 0, .int .i64 0, .int .i64 0, .int .i64 0, .int .i64 0, .int .i64 0, .int .i64 0, .int .i64 0, .int .i64 0, .int .i64 0, .int .i64 0, .int .i64 0, .int .i64 0, .int .i64 0, .int .i64 0, .int .i64 0] : Array Value).size := infoWs
set_option maxHeartbeats 3200000 in
theorem weights_bad (a b c w0 w1 w2 w3 w4 l r : Int) (ao : Option Addr) (cap : Nat) (L : List Q) (w : World) (h : LiesO w ao L) (hr : clR a b c L [w0, w1, w2, w3, w4] l r) (h0 : r ≠ 0) (hlen : L.length ≤ 1000000) : Calls Tryd.prog 8 #[.agg #[.int .i64 a, .int .i64 b, .int .i64 c, .slice ao L.length cap], .agg #[.int .i64 w0, .int .i64 w1, .int .i64 w2, .int .i64 w3, .int .i64 w4], .int .i64 l] w fun e w' => e = .returned (.tuple #[.agg #[.int .i64 0, .int .i64 0, .int .i64 0, .int .i64 0, .int .i64 0, .int .i64 0, .int .i64 0, .int .i64 0, .int .i64 0, .int .i64 0, .int .i64 0, .int .i64 0, .int .i64 0, .int .i64 0, .int .i64 0, .int .i64 0, .int .i64 0, .int .i64 0, .int .i64 0, .int .i64 0, .int .i64 0, .int .i64 0, .int .i64 0, .int .i64 0], .int .i64 r]) ∧ Below w.heap.size w w' := by
  have A1 : Below w.heap.size w (((w.alloc (.cells #[.int .i64 a, .int .i64 b, .int .i64 c, .slice ao L.length cap] 25)).alloc (.cells #[.int .i64 w0, .int .i64 w1, .int .i64 w2, .int .i64 w3, .int .i64 w4] 26)).alloc (.cells #[.int .i64 0, .int .i64 0, .int .i64 0, .int .i64 0, .int .i64 0, .int .i64 0, .int .i64 0, .int .i64 0, .int .i64 0, .int .i64 0, .int .i64 0, .int .i64 0, .int .i64 0, .int .i64 0, .int .i64 0, .int .i64 0, .int .i64 0, .int .i64 0, .int .i64 0, .int .i64 0, .int .i64 0, .int .i64 0, .int .i64 0, .int .i64 0] 31)) := by repeat (first | (with_reducible exact Below.refl _ _) | (with_reducible refine Below.setCell ?_ ?_ _) | (with_reducible refine Below.drew ?_) | (with_reducible refine Below.alloc ?_ ?_ _) | omega | (simp <;> omega))
  have h1 := Lib.hid (h.later A1)
  have c1 := fun (W : World) h => checkLink_any a b c w0 w1 w2 w3 w4 l r ao cap L W h hr hlen
  have h0' : (r != 0) = true := by simpa using h0
  have h0'' : (r == 0) = false := by simpa using h0
  have tb00 := (ABx.news (w := (w.alloc (.cells #[.int .i64 a, .int .i64 b, .int .i64 c, .slice ao L.length cap] 25)).alloc (.cells #[.int .i64 w0, .int .i64 w1, .int .i64 w2, .int .i64 w3, .int .i64 w4] 26)) (T := 31) #[.int .i64 0, .int .i64 0, .int .i64 0, .int .i64 0, .int .i64 0, .int .i64 0, .int .i64 0, .int .i64 0, .int .i64 0, .int .i64 0, .int .i64 0, .int .i64 0, .int .i64 0, .int .i64 0, .int .i64 0, .int .i64 0, .int .i64 0, .int .i64 0, .int .i64 0, .int .i64 0, .int .i64 0, .int .i64 0, .int .i64 0, .int .i64 0])
  simp only [World.size_alloc] at tb00
  have tb0 := Lib.hid tb00
  clear tb00
  clear h hr h0 A1
  go_enter Tryd.func8, Tryd.ntmps8
  go_wp2_with (fail)
  refine (c1 _ h1.out).mono ?_
  rintro e w5 ⟨rfl, hw5⟩
  have tb5 := Lib.hid (tb0.out.later hw5)
  go_wp2_with (refine wpList_store_row rfl 31 (.tmp 6) (.tmp 17) rfl (w.heap.size + 1 + 1) #[.int .i64 0, .int .i64 0, .int .i64 0, .int .i64 0, .int .i64 0, .int .i64 0, .int .i64 0, .int .i64 0, .int .i64 0, .int .i64 0, .int .i64 0, .int .i64 0, .int .i64 0, .int .i64 0, .int .i64 0, .int .i64 0, .int .i64 0, .int .i64 0, .int .i64 0, .int .i64 0, .int .i64 0, .int .i64 0, .int .i64 0, .int .i64 0] rfl rfl 31 _ tb5.out.h ws24_sz rfl ws24_one ?_)
  have G1 := grown_setRow w5 (w.heap.size + 1 + 1) #[.int .i64 0, .int .i64 0, .int .i64 0, .int .i64 0, .int .i64 0, .int .i64 0, .int .i64 0, .int .i64 0, .int .i64 0, .int .i64 0, .int .i64 0, .int .i64 0, .int .i64 0, .int .i64 0, .int .i64 0, .int .i64 0, .int .i64 0, .int .i64 0, .int .i64 0, .int .i64 0, .int .i64 0, .int .i64 0, .int .i64 0, .int .i64 0]
  have hh := setRow_heap w5 (w.heap.size + 1 + 1) _ (#[.int .i64 0, .int .i64 0, .int .i64 0, .int .i64 0, .int .i64 0, .int .i64 0, .int .i64 0, .int .i64 0, .int .i64 0, .int .i64 0, .int .i64 0, .int .i64 0, .int .i64 0, .int .i64 0, .int .i64 0, .int .i64 0, .int .i64 0, .int .i64 0, .int .i64 0, .int .i64 0, .int .i64 0, .int .i64 0, .int .i64 0, .int .i64 0] : Array Value) 31 (0, 0) tb5.out.h
  have hb5 : Below w.heap.size w w5 := by repeat (first | (with_reducible exact Below.refl _ _) | (with_reducible refine Below.setCell ?_ ?_ _) | (with_reducible refine Below.drew ?_) | (with_reducible refine Below.alloc ?_ ?_ _) | (with_reducible refine Below.trans ?_ (Below.mono hw5 ?_)) | (with_reducible exact hw5.size) | omega | (simp <;> omega) | (simp <;> (have s := hw5.size; omega)) | (have s0 := hw5.size; (try simp at s0); (try simp); omega))
  refine bodyPost_ret (v := .tuple #[.agg #[.int .i64 0, .int .i64 0, .int .i64 0, .int .i64 0, .int .i64 0, .int .i64 0, .int .i64 0, .int .i64 0, .int .i64 0, .int .i64 0, .int .i64 0, .int .i64 0, .int .i64 0, .int .i64 0, .int .i64 0, .int .i64 0, .int .i64 0, .int .i64 0, .int .i64 0, .int .i64 0, .int .i64 0, .int .i64 0, .int .i64 0, .int .i64 0], .int .i64 r]) ?_ rfl ⟨rfl, hb5.grown G1 hb5.size (fun i hi => by simp at hi; omega)⟩
  simp [results, Tryd.results8, asAddr, run_loadVar_row _ _ _ _ _ _ _ hh Tryd.underlying31 rfl ws24_sz]
/-- the weights of the values, as the program reckons them -/
def wsA (a b c : Int) (L : List Q) (ws : List Int) (l : Int) : Array Value := ((wsK a b c L ws l (thr a b c l) 24).map vi).toArray
theorem wsA_sz (a b c : Int) (L : List Q) (ws : List Int) (l : Int) : (wsA a b c L ws l).size = 24 := by simp [wsA, wsK_len]
theorem wsA_one (a b c : Int) (L : List Q) (ws : List Int) (l : Int) : (wsA a b c L ws l).all (·.oneCell') = true := wsOne _
set_option maxHeartbeats 6400000 in
theorem weights_ok (a b c w0 w1 w2 w3 w4 l : Int) (bl off cap : Nat) (L : List Q) (w : World) (h : Lies w bl off L) (hr : clR a b c L [w0, w1, w2, w3, w4] l 0) (hst : StA w) (hlen : L.length ≤ 1000000) : Calls Tryd.prog 8 #[.agg #[.int .i64 a, .int .i64 b, .int .i64 c, .slice (some ⟨bl, off, none⟩) L.length cap], .agg #[.int .i64 w0, .int .i64 w1, .int .i64 w2, .int .i64 w3, .int .i64 w4], .int .i64 l] w fun e w' => e = .returned (.tuple #[.agg (wsA a b c L [w0, w1, w2, w3, w4] l), .int .i64 0]) ∧ Below w.heap.size w w' := by
  obtain ⟨hF, hWO, l0, l1, l2⟩ := clR_ok hr
  obtain ⟨hn1, hn4⟩ := thr_some hF.z l0 l1
  have c1 := fun (W : World) (k : Lies W bl off L) => checkLink_any a b c w0 w1 w2 w3 w4 l 0 (some ⟨bl, off, none⟩) cap L W (.inr ⟨bl, off, rfl, k⟩) hr hlen
  have c2 := fun (W : World) (k : Lies W bl off L) (hs : StA W) => table_any a b c l L bl off cap w0 w1 w2 w3 w4 W hF l0 l1 k hs
  have c3 := Lib.hid (fun (R : List (Q × Value)) (Bc Bw m k pb po : Nat) (xs : List Value) (W : World) (hR : R.length = 24) (hRw : Rows W Bc Bw m R) (hcb : CB W Bc (.slice (some ⟨bl, off, none⟩) L.length cap) l (.slice (some ⟨pb, po, none⟩) (thr a b c l).length k)) (hwb : WB W Bw [w0, w1, w2, w3, w4]) (hL : Lies W bl off L) (hP : PLs a b c W xs (thr a b c l)) (hX : ∀ (i : Nat) (x : Value), xs[i]? = some x → W.cell? ⟨pb, po + i, none⟩ = some x) => weightsOf_any a b c l L R Bc Bw m bl off cap k pb po xs (thr a b c l) w0 w1 w2 w3 w4 W hF hR hRw hcb hwb hL hP hX (fun p hp => by obtain ⟨i, hi⟩ := List.getElem?_of_mem hp; exact thr_rng hi) hn4 hWO)
  have H := Lib.hid h
  have HST := Lib.hid hst
  have f0 : FW (((w.alloc (.cells #[.int .i64 a, .int .i64 b, .int .i64 c, .slice (some ⟨bl, off, none⟩) L.length cap] 25)).alloc (.cells #[.int .i64 w0, .int .i64 w1, .int .i64 w2, .int .i64 w3, .int .i64 w4] 26)).alloc (.cells #[.int .i64 0, .int .i64 0, .int .i64 0, .int .i64 0, .int .i64 0, .int .i64 0, .int .i64 0, .int .i64 0, .int .i64 0, .int .i64 0, .int .i64 0, .int .i64 0, .int .i64 0, .int .i64 0, .int .i64 0, .int .i64 0, .int .i64 0, .int .i64 0, .int .i64 0, .int .i64 0, .int .i64 0, .int .i64 0, .int .i64 0, .int .i64 0] 31)) w.heap.size a b c (.slice (some ⟨bl, off, none⟩) L.length cap) := FW.n3a
  have g0 : C5 (((w.alloc (.cells #[.int .i64 a, .int .i64 b, .int .i64 c, .slice (some ⟨bl, off, none⟩) L.length cap] 25)).alloc (.cells #[.int .i64 w0, .int .i64 w1, .int .i64 w2, .int .i64 w3, .int .i64 w4] 26)).alloc (.cells #[.int .i64 0, .int .i64 0, .int .i64 0, .int .i64 0, .int .i64 0, .int .i64 0, .int .i64 0, .int .i64 0, .int .i64 0, .int .i64 0, .int .i64 0, .int .i64 0, .int .i64 0, .int .i64 0, .int .i64 0, .int .i64 0, .int .i64 0, .int .i64 0, .int .i64 0, .int .i64 0, .int .i64 0, .int .i64 0, .int .i64 0, .int .i64 0] 31)) (w.heap.size + 1) (.int .i64 w0) (.int .i64 w1) (.int .i64 w2) (.int .i64 w3) (.int .i64 w4) := C5.n3b
  have tb00 := (ABx.news (w := (w.alloc (.cells #[.int .i64 a, .int .i64 b, .int .i64 c, .slice (some ⟨bl, off, none⟩) L.length cap] 25)).alloc (.cells #[.int .i64 w0, .int .i64 w1, .int .i64 w2, .int .i64 w3, .int .i64 w4] 26)) (T := 31) #[.int .i64 0, .int .i64 0, .int .i64 0, .int .i64 0, .int .i64 0, .int .i64 0, .int .i64 0, .int .i64 0, .int .i64 0, .int .i64 0, .int .i64 0, .int .i64 0, .int .i64 0, .int .i64 0, .int .i64 0, .int .i64 0, .int .i64 0, .int .i64 0, .int .i64 0, .int .i64 0, .int .i64 0, .int .i64 0, .int .i64 0, .int .i64 0])
  simp only [World.size_alloc] at tb00
  have A1 : Below w.heap.size w (((w.alloc (.cells #[.int .i64 a, .int .i64 b, .int .i64 c, .slice (some ⟨bl, off, none⟩) L.length cap] 25)).alloc (.cells #[.int .i64 w0, .int .i64 w1, .int .i64 w2, .int .i64 w3, .int .i64 w4] 26)).alloc (.cells #[.int .i64 0, .int .i64 0, .int .i64 0, .int .i64 0, .int .i64 0, .int .i64 0, .int .i64 0, .int .i64 0, .int .i64 0, .int .i64 0, .int .i64 0, .int .i64 0, .int .i64 0, .int .i64 0, .int .i64 0, .int .i64 0, .int .i64 0, .int .i64 0, .int .i64 0, .int .i64 0, .int .i64 0, .int .i64 0, .int .i64 0, .int .i64 0] 31)) := by repeat (first | (with_reducible exact Below.refl _ _) | (with_reducible refine Below.setCell ?_ ?_ _) | (with_reducible refine Below.drew ?_) | (with_reducible refine Below.alloc ?_ ?_ _) | omega | (simp <;> omega))
  have F0 := Lib.hid f0
  have G0 := Lib.hid g0
  have T0 := Lib.hid tb00
  have B0 := Lib.hid A1
  clear f0 g0 tb00 A1 h hr hst hF hWO l0 l1 l2 hn1 hn4 hlen
  go_enter Tryd.func8, Tryd.ntmps8
  go_wp2_with (fail)
  refine (c1 _ (H.out.later B0.out)).mono ?_
  rintro e w4' ⟨rfl, hw4⟩
  have F4 := Lib.hid (F0.out.later hw4)
  have G4 := Lib.hid (G0.out.later hw4)
  have T4 := Lib.hid (T0.out.later hw4)
  have B4 := Lib.hid (B0.out.trans (hw4.mono B0.out.size))
  clear hw4 F0 G0 T0 B0 c1
  obtain ⟨f0, f1, f2, f3, ff, fl⟩ := F4.out
  obtain ⟨g0, g1, g2, g3, g4, gf, gl⟩ := G4.out
  go_wp2_with (fail)
  refine (c2 _ (H.out.later B4.out) (HST.out.later B4.out)).mono ?_
  rintro e w5 ⟨⟨R, Bc, Bw, m, k, pb, po, xs, rfl, hR, hRw, hcb, hwb, hP, hX⟩, hw5⟩
  have T5 := Lib.hid (T4.out.later hw5)
  have B5 := Lib.hid (B4.out.trans (hw5.mono B4.out.size))
  clear hw5 F4 G4 T4 B4 c2 f0 f1 f2 f3 ff fl g0 g1 g2 g3 g4 gf gl
  have hA144 : (R.flatMap rc).toArray.size = 144 := by rw [List.size_toArray, flat6, hR]
  have hsz : (Tryd.prog.info? 66).map (·.size) = some (R.flatMap rc).toArray.size := by rw [infoRt, hA144]
  have hone := rc_one R w5 Bc Bw m hRw
  have tz := ABx.news (w := w5) (T := 66) Tryd.zeroCells66
  have hold : (Tryd.zeroCells66.toList.toArray).size = (R.flatMap rc).toArray.size := by rw [hA144]; simp [zeroRt]
  have hb6 : Below w5.heap.size w5 ((w5.alloc (.cells Tryd.zeroCells66 66)).setRow w5.heap.size (R.flatMap rc).toArray) := (ba1 (w := w5) (o := .cells Tryd.zeroCells66 66)).grown (grown_setRow _ _ _) (by simp) (fun j e => by cases e; exact Nat.le_refl _)
  have c3' := Lib.hid (c3.out R Bc Bw m k pb po xs _ hR (hRw.later hb6) (hcb.later hb6) (hwb.later hb6) (H.out.later (B5.out.trans (hb6.mono B5.out.size))) (hP.later hb6) (fun i x hx => (hb6.cell (World.block_lt_of_cell? _ _ (hX i x hx))).trans (hX i x hx)))
  have hh6 := setRow_heap (w5.alloc (.cells Tryd.zeroCells66 66)) w5.heap.size _ (R.flatMap rc).toArray 66 (0, 0) tz.h
  have T6 := Lib.hid (T5.out.later hb6)
  have B6 := Lib.hid (B5.out.trans (hb6.mono B5.out.size))
  have HH6 := Lib.hid hh6
  have TZ := Lib.hid tz
  have HSZ := Lib.hid hsz
  have HONE := Lib.hid hone
  have HOLD := Lib.hid hold
  clear hA144 hsz hone tz hold hb6 hh6 hR hRw hcb hwb hP hX c3 T5 B5
  generalize hA : (R.flatMap rc).toArray = A at *
  have HAA := Lib.hid hA
  clear hA
  generalize hZ : Tryd.zeroCells66.toList = Z at *
  clear hZ
  go_wp2_with (first | (refine wpList_store_row rfl 66 (.tmp 9) (.tmp 24) rfl w5.heap.size A rfl rfl 66 Z.toArray TZ.out.h HSZ.out HOLD.out HONE.out ?_) | (refine wpList_load_row rfl 66 (.tmp 9) rfl w5.heap.size rfl 66 A (0, 0) _ HH6.out Tryd.underlying66 rfl HSZ.out ?_))
  refine c3'.out.mono ?_
  rintro e w7 ⟨he, hw7⟩
  obtain rfl : e = .returned (.tuple #[.agg (wsA a b c L [w0, w1, w2, w3, w4] l), .int .i64 0]) := he
  have T7 := Lib.hid (T6.out.later hw7)
  have B7 := Lib.hid (B6.out.trans (hw7.mono B6.out.size))
  have hs7 := Lib.hid (show (Tryd.prog.info? 31).map (·.size) = some (wsA a b c L [w0, w1, w2, w3, w4] l).size by rw [wsA_sz]; exact infoWs)
  have ho7 := Lib.hid (show ((#[.int .i64 0, .int .i64 0, .int .i64 0, .int .i64 0, .int .i64 0, .int .i64 0, .int .i64 0, .int .i64 0, .int .i64 0, .int .i64 0, .int .i64 0, .int .i64 0, .int .i64 0, .int .i64 0, .int .i64 0, .int .i64 0, .int .i64 0, .int .i64 0, .int .i64 0, .int .i64 0, .int .i64 0, .int .i64 0, .int .i64 0, .int .i64 0] : Array Value).toList.toArray).size = (wsA a b c L [w0, w1, w2, w3, w4] l).size by rw [wsA_sz]; rfl)
  have h17 := Lib.hid (wsA_one a b c L [w0, w1, w2, w3, w4] l)
  clear hw7 T6 B6 c3' HH6 TZ HSZ HONE HOLD
  generalize hV : wsA a b c L [w0, w1, w2, w3, w4] l = V at *
  have HV := Lib.hid hV
  clear hV
  go_wp2_with (refine wpList_store_row rfl 31 (.tmp 6) (.tmp 32) rfl (w.heap.size + 1 + 1) V rfl rfl 31 _ T7.out.h hs7.out ho7.out h17.out ?_)
  have G1 := grown_setRow w7 (w.heap.size + 1 + 1) V
  have hh := setRow_heap w7 (w.heap.size + 1 + 1) _ V 31 (0, 0) T7.out.h
  have hb7 := B7.out
  refine bodyPost_ret (v := .tuple #[.agg V, .int .i64 0]) ?_ rfl ⟨by rw [HV.out], hb7.grown G1 hb7.size (fun i hi => by simp at hi; omega)⟩
  simp [results, Tryd.results8, asAddr, run_loadVar_row _ _ _ _ _ _ _ hh Tryd.underlying31 rfl hs7.out]
end Go.Proofs.YtpfhjdmgkckjfaaDoor
