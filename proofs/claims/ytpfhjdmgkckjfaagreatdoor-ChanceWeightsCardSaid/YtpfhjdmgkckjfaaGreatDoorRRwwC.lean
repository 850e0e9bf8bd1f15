/- Weights, as the document's answers hand them back.
Conditions: those written at each theorem. -/
import Derived.Test.YtpfhjdmgkckjfaaGreatDoorRRwsC
namespace Go.Proofs.YtpfhjdmgkckjfaaGreatDoor
set_option linter.unusedVariables false
set_option linter.unusedSimpArgs false
set_option maxRecDepth 1000000
open Go.RowKit
open Um Tm Cm

set_option maxHeartbeats 3200000 in
theorem refWeightsX_bad (a b c w0 w1 w2 w3 w4 l r : Int) (ao : Option Addr) (cap : Nat) (L : List Q) (w : World) (h : LiesO w ao L) (hr : clR a b c L [w0, w1, w2, w3, w4] l r) (h0 : r ≠ 0) (hlen : L.length ≤ 1000000) : Calls Tryz.prog 14 #[.agg #[.int .i64 a, .int .i64 b, .int .i64 c, .slice ao L.length cap], .agg #[.int .i64 w0, .int .i64 w1, .int .i64 w2, .int .i64 w3, .int .i64 w4], .int .i64 l] w fun e w' => e = .returned (.tuple #[.agg #[.int .i64 0, .int .i64 0, .int .i64 0, .int .i64 0, .int .i64 0, .int .i64 0, .int .i64 0, .int .i64 0, .int .i64 0, .int .i64 0, .int .i64 0, .int .i64 0, .int .i64 0, .int .i64 0, .int .i64 0, .int .i64 0, .int .i64 0, .int .i64 0, .int .i64 0, .int .i64 0, .int .i64 0, .int .i64 0, .int .i64 0, .int .i64 0], .int .i64 r]) ∧ Below w.heap.size w w' := by
  have A1 : Below w.heap.size w (((w.alloc (.cells #[.int .i64 a, .int .i64 b, .int .i64 c, .slice ao L.length cap] 25)).alloc (.cells #[.int .i64 w0, .int .i64 w1, .int .i64 w2, .int .i64 w3, .int .i64 w4] 26)).alloc (.cells #[.int .i64 0, .int .i64 0, .int .i64 0, .int .i64 0, .int .i64 0, .int .i64 0, .int .i64 0, .int .i64 0, .int .i64 0, .int .i64 0, .int .i64 0, .int .i64 0, .int .i64 0, .int .i64 0, .int .i64 0, .int .i64 0, .int .i64 0, .int .i64 0, .int .i64 0, .int .i64 0, .int .i64 0, .int .i64 0, .int .i64 0, .int .i64 0] 29)) := by repeat (first | (with_reducible exact Below.refl _ _) | (with_reducible refine Below.setCell ?_ ?_ _) | (with_reducible refine Below.drew ?_) | (with_reducible refine Below.alloc ?_ ?_ _) | omega | (simp <;> omega))
  have h1 := Lib.hid (h.later A1)
  have c1 := fun (W : World) h => refGiven_any a b c w0 w1 w2 w3 w4 l r ao cap L W h hr hlen
  have h0' : (r != 0) = true := by simpa using h0
  have h0'' : (r == 0) = false := by simpa using h0
  have tb00 := (ABx.news (w := (w.alloc (.cells #[.int .i64 a, .int .i64 b, .int .i64 c, .slice ao L.length cap] 25)).alloc (.cells #[.int .i64 w0, .int .i64 w1, .int .i64 w2, .int .i64 w3, .int .i64 w4] 26)) (T := 29) #[.int .i64 0, .int .i64 0, .int .i64 0, .int .i64 0, .int .i64 0, .int .i64 0, .int .i64 0, .int .i64 0, .int .i64 0, .int .i64 0, .int .i64 0, .int .i64 0, .int .i64 0, .int .i64 0, .int .i64 0, .int .i64 0, .int .i64 0, .int .i64 0, .int .i64 0, .int .i64 0, .int .i64 0, .int .i64 0, .int .i64 0, .int .i64 0])
  simp only [World.size_alloc] at tb00
  have tb0 := Lib.hid tb00
  clear tb00
  clear h hr h0 A1
  go_enter Tryz.func14, Tryz.ntmps14
  go_wp2_with (fail)
  refine (c1 _ h1.out).mono ?_
  rintro e w5 ⟨rfl, hw5⟩
  have tb5 := Lib.hid (tb0.out.later hw5)
  go_wp2_with (refine wpList_store_row rfl 29 (.tmp 6) (.tmp 15) rfl (w.heap.size + 1 + 1) #[.int .i64 0, .int .i64 0, .int .i64 0, .int .i64 0, .int .i64 0, .int .i64 0, .int .i64 0, .int .i64 0, .int .i64 0, .int .i64 0, .int .i64 0, .int .i64 0, .int .i64 0, .int .i64 0, .int .i64 0, .int .i64 0, .int .i64 0, .int .i64 0, .int .i64 0, .int .i64 0, .int .i64 0, .int .i64 0, .int .i64 0, .int .i64 0] rfl rfl 29 _ tb5.out.h ws24_sz rfl ws24_one ?_)
  have G1 := grown_setRow w5 (w.heap.size + 1 + 1) #[.int .i64 0, .int .i64 0, .int .i64 0, .int .i64 0, .int .i64 0, .int .i64 0, .int .i64 0, .int .i64 0, .int .i64 0, .int .i64 0, .int .i64 0, .int .i64 0, .int .i64 0, .int .i64 0, .int .i64 0, .int .i64 0, .int .i64 0, .int .i64 0, .int .i64 0, .int .i64 0, .int .i64 0, .int .i64 0, .int .i64 0, .int .i64 0]
  have hh := setRow_heap w5 (w.heap.size + 1 + 1) _ (#[.int .i64 0, .int .i64 0, .int .i64 0, .int .i64 0, .int .i64 0, .int .i64 0, .int .i64 0, .int .i64 0, .int .i64 0, .int .i64 0, .int .i64 0, .int .i64 0, .int .i64 0, .int .i64 0, .int .i64 0, .int .i64 0, .int .i64 0, .int .i64 0, .int .i64 0, .int .i64 0, .int .i64 0, .int .i64 0, .int .i64 0, .int .i64 0] : Array Value) 29 (0, 0) tb5.out.h
  have hb5 : Below w.heap.size w w5 := by repeat (first | (with_reducible exact Below.refl _ _) | (with_reducible refine Below.setCell ?_ ?_ _) | (with_reducible refine Below.drew ?_) | (with_reducible refine Below.alloc ?_ ?_ _) | (with_reducible refine Below.trans ?_ (Below.mono hw5 ?_)) | (with_reducible exact hw5.size) | omega | (simp <;> omega) | (simp <;> (have s := hw5.size; omega)) | (have s0 := hw5.size; (try simp at s0); (try simp); omega))
  refine bodyPost_ret (v := .tuple #[.agg #[.int .i64 0, .int .i64 0, .int .i64 0, .int .i64 0, .int .i64 0, .int .i64 0, .int .i64 0, .int .i64 0, .int .i64 0, .int .i64 0, .int .i64 0, .int .i64 0, .int .i64 0, .int .i64 0, .int .i64 0, .int .i64 0, .int .i64 0, .int .i64 0, .int .i64 0, .int .i64 0, .int .i64 0, .int .i64 0, .int .i64 0, .int .i64 0], .int .i64 r]) ?_ rfl ⟨rfl, hb5.grown G1 hb5.size (fun i hi => by simp at hi; omega)⟩
  simp [results, Tryz.results14, asAddr, run_loadVar_row _ _ _ _ _ _ _ hh Tryz.underlying29 rfl ws24_sz]
set_option maxHeartbeats 6400000 in
theorem refWeightsX_ok (a b c w0 w1 w2 w3 w4 l : Int) (bl off cap : Nat) (L : List Q) (w : World) (h : Lies w bl off L) (hr : clR a b c L [w0, w1, w2, w3, w4] l 0) (hlen : L.length ≤ 1000000) : Calls Tryz.prog 14 #[.agg #[.int .i64 a, .int .i64 b, .int .i64 c, .slice (some ⟨bl, off, none⟩) L.length cap], .agg #[.int .i64 w0, .int .i64 w1, .int .i64 w2, .int .i64 w3, .int .i64 w4], .int .i64 l] w fun e w' => e = .returned (.tuple #[.agg (wsA a b c L [w0, w1, w2, w3, w4] l), .int .i64 0]) ∧ Below w.heap.size w w' := by
  obtain ⟨hF, hWO, l0, l1, l2⟩ := clR_ok hr
  have c1 := fun (W : World) (k : Lies W bl off L) => refGiven_any a b c w0 w1 w2 w3 w4 l 0 (some ⟨bl, off, none⟩) cap L W (.inr ⟨bl, off, rfl, k⟩) hr hlen
  have c2 := fun (W : World) (k : Lies W bl off L) => refWeights_any a b c w0 w1 w2 w3 w4 l bl off cap L W k hF hWO l0 l2
  have H := Lib.hid h
  have f0 : FW (((w.alloc (.cells #[.int .i64 a, .int .i64 b, .int .i64 c, .slice (some ⟨bl, off, none⟩) L.length cap] 25)).alloc (.cells #[.int .i64 w0, .int .i64 w1, .int .i64 w2, .int .i64 w3, .int .i64 w4] 26)).alloc (.cells #[.int .i64 0, .int .i64 0, .int .i64 0, .int .i64 0, .int .i64 0, .int .i64 0, .int .i64 0, .int .i64 0, .int .i64 0, .int .i64 0, .int .i64 0, .int .i64 0, .int .i64 0, .int .i64 0, .int .i64 0, .int .i64 0, .int .i64 0, .int .i64 0, .int .i64 0, .int .i64 0, .int .i64 0, .int .i64 0, .int .i64 0, .int .i64 0] 29)) w.heap.size a b c (.slice (some ⟨bl, off, none⟩) L.length cap) := FW.n3a
  have g0 : C5 (((w.alloc (.cells #[.int .i64 a, .int .i64 b, .int .i64 c, .slice (some ⟨bl, off, none⟩) L.length cap] 25)).alloc (.cells #[.int .i64 w0, .int .i64 w1, .int .i64 w2, .int .i64 w3, .int .i64 w4] 26)).alloc (.cells #[.int .i64 0, .int .i64 0, .int .i64 0, .int .i64 0, .int .i64 0, .int .i64 0, .int .i64 0, .int .i64 0, .int .i64 0, .int .i64 0, .int .i64 0, .int .i64 0, .int .i64 0, .int .i64 0, .int .i64 0, .int .i64 0, .int .i64 0, .int .i64 0, .int .i64 0, .int .i64 0, .int .i64 0, .int .i64 0, .int .i64 0, .int .i64 0] 29)) (w.heap.size + 1) (.int .i64 w0) (.int .i64 w1) (.int .i64 w2) (.int .i64 w3) (.int .i64 w4) := C5.n3b
  have tb00 := (ABx.news (w := (w.alloc (.cells #[.int .i64 a, .int .i64 b, .int .i64 c, .slice (some ⟨bl, off, none⟩) L.length cap] 25)).alloc (.cells #[.int .i64 w0, .int .i64 w1, .int .i64 w2, .int .i64 w3, .int .i64 w4] 26)) (T := 29) #[.int .i64 0, .int .i64 0, .int .i64 0, .int .i64 0, .int .i64 0, .int .i64 0, .int .i64 0, .int .i64 0, .int .i64 0, .int .i64 0, .int .i64 0, .int .i64 0, .int .i64 0, .int .i64 0, .int .i64 0, .int .i64 0, .int .i64 0, .int .i64 0, .int .i64 0, .int .i64 0, .int .i64 0, .int .i64 0, .int .i64 0, .int .i64 0])
  simp only [World.size_alloc] at tb00
  have A1 : Below w.heap.size w (((w.alloc (.cells #[.int .i64 a, .int .i64 b, .int .i64 c, .slice (some ⟨bl, off, none⟩) L.length cap] 25)).alloc (.cells #[.int .i64 w0, .int .i64 w1, .int .i64 w2, .int .i64 w3, .int .i64 w4] 26)).alloc (.cells #[.int .i64 0, .int .i64 0, .int .i64 0, .int .i64 0, .int .i64 0, .int .i64 0, .int .i64 0, .int .i64 0, .int .i64 0, .int .i64 0, .int .i64 0, .int .i64 0, .int .i64 0, .int .i64 0, .int .i64 0, .int .i64 0, .int .i64 0, .int .i64 0, .int .i64 0, .int .i64 0, .int .i64 0, .int .i64 0, .int .i64 0, .int .i64 0] 29)) := by repeat (first | (with_reducible exact Below.refl _ _) | (with_reducible refine Below.setCell ?_ ?_ _) | (with_reducible refine Below.drew ?_) | (with_reducible refine Below.alloc ?_ ?_ _) | omega | (simp <;> omega))
  have F0 := Lib.hid f0
  have G0 := Lib.hid g0
  have T0 := Lib.hid tb00
  have B0 := Lib.hid A1
  have hs7 := Lib.hid (show (Tryz.prog.info? 29).map (·.size) = some (wsA a b c L [w0, w1, w2, w3, w4] l).size by rw [wsA_sz]; exact infoWs)
  have ho7 := Lib.hid (show ((#[.int .i64 0, .int .i64 0, .int .i64 0, .int .i64 0, .int .i64 0, .int .i64 0, .int .i64 0, .int .i64 0, .int .i64 0, .int .i64 0, .int .i64 0, .int .i64 0, .int .i64 0, .int .i64 0, .int .i64 0, .int .i64 0, .int .i64 0, .int .i64 0, .int .i64 0, .int .i64 0, .int .i64 0, .int .i64 0, .int .i64 0, .int .i64 0] : Array Value).toList.toArray).size = (wsA a b c L [w0, w1, w2, w3, w4] l).size by rw [wsA_sz]; rfl)
  have h17 := Lib.hid (wsA_one a b c L [w0, w1, w2, w3, w4] l)
  clear f0 g0 tb00 A1 h hr hF hWO l0 l1 l2 hlen
  generalize wsA a b c L [w0, w1, w2, w3, w4] l = V at *
  go_enter Tryz.func14, Tryz.ntmps14
  go_wp2_with (fail)
  refine (c1 _ (H.out.later B0.out)).mono ?_
  rintro e y4 ⟨rfl, hw4⟩
  have F4 := Lib.hid (F0.out.later hw4)
  have G4 := Lib.hid (G0.out.later hw4)
  have T4 := Lib.hid (T0.out.later hw4)
  have B4 := Lib.hid (B0.out.trans (hw4.mono B0.out.size))
  clear hw4 F0 G0 T0 B0 c1
  obtain ⟨f0, f1, f2, f3, ff, fl⟩ := F4.out
  obtain ⟨g0, g1, g2, g3, g4, gf, gl⟩ := G4.out
  go_wp2_with (fail)
  refine (c2 _ (H.out.later B4.out)).mono ?_
  rintro e y7 ⟨rfl, hw7⟩
  have T7 := Lib.hid (T4.out.later hw7)
  have B7 := Lib.hid (B4.out.trans (hw7.mono B4.out.size))
  clear hw7 F4 G4 T4 B4 c2 f0 f1 f2 f3 ff fl g0 g1 g2 g3 g4 gf gl
  go_wp2_with (refine wpList_store_row rfl 29 (.tmp 6) (.tmp 20) rfl (w.heap.size + 1 + 1) V rfl rfl 29 _ T7.out.h hs7.out ho7.out h17.out ?_)
  have G1 := grown_setRow y7 (w.heap.size + 1 + 1) V
  have hh := setRow_heap y7 (w.heap.size + 1 + 1) _ V 29 (0, 0) T7.out.h
  have hb7 := B7.out
  refine bodyPost_ret (v := .tuple #[.agg V, .int .i64 0]) ?_ rfl ⟨rfl, hb7.grown G1 hb7.size (fun i hi => by simp at hi; omega)⟩
  simp [results, Tryz.results14, asAddr, run_loadVar_row _ _ _ _ _ _ _ hh Tryz.underlying29 rfl hs7.out]
end Go.Proofs.YtpfhjdmgkckjfaaGreatDoor
