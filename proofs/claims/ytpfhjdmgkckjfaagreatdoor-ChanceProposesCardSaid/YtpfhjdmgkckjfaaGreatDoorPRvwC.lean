/- Which weights are right, and what is asked of a field, weights and a link, as the document's answers say it.
Conditions: those written at each theorem. -/
import Derived.Test.YtpfhjdmgkckjfaaGreatDoorPChkC
import Derived.Test.YtpfhjdmgkckjfaaGreatDoorPWlkA
import Derived.Test.YtpfhjdmgkckjfaaGreatDoorPLitC
namespace Go.Proofs.YtpfhjdmgkckjfaaGreatDoor
set_option linter.unusedVariables false
set_option linter.unusedSimpArgs false
set_option maxRecDepth 1000000
open Go.RowKit
open Um Tm Cm

theorem within5v_any (n lo hi : Int) (w : World) (r : Bool) (h : (lo ≤ n ∧ n ≤ hi ∧ r = true) ∨ (¬ (lo ≤ n ∧ n ≤ hi) ∧ r = false)) :
    Calls Tryz.prog 45 #[.int .i64 n, .int .i64 lo, .int .i64 hi] w fun e w' => e = .returned (.bool r) ∧ w = w' := by
  rcases h with ⟨a, b, rfl⟩ | ⟨h, rfl⟩
  · go_enter Tryz.func45, Tryz.ntmps45
    go_wp2
    go_ret
    exact ⟨rfl, rfl⟩
  · by_cases a : lo ≤ n
    · have b : ¬ n ≤ hi := fun b => h ⟨a, b⟩
      clear h
      go_enter Tryz.func45, Tryz.ntmps45
      go_wp2
      go_ret
      exact ⟨rfl, rfl⟩
    · clear h
      go_enter Tryz.func45, Tryz.ntmps45
      go_wp2
      go_ret
      exact ⟨rfl, rfl⟩
theorem five_get {l : List Int} (h : l.length = 5) {k : Nat} (hk : k < 5) : ∃ x, l[k]? = some x ∧ x ∈ l := ⟨_, List.getElem?_eq_getElem (by omega), List.getElem_mem _⟩
set_option maxHeartbeats 3200000 in
theorem refVw_any (w0 w1 w2 w3 w4 r : Int) (w : World) (h : vwR [w0, w1, w2, w3, w4] r) : Calls Tryz.prog 16 #[.agg #[.int .i64 w0, .int .i64 w1, .int .i64 w2, .int .i64 w3, .int .i64 w4]] w fun e w' => e = .returned (.int .i64 r) ∧ Below w.heap.size w w' := by
  have cW := Lib.hid (fun (x : Int) (d : Bool) (hd : (1 ≤ x ∧ x ≤ 100 ∧ d = true) ∨ (¬ (1 ≤ x ∧ x ≤ 100) ∧ d = false)) (W : World) => within5v_any x 1 100 W d hd)
  have HR := Lib.hid h
  have wb : WB (w.alloc (.cells #[.int .i64 w0, .int .i64 w1, .int .i64 w2, .int .i64 w3, .int .i64 w4] 26)) w.heap.size [w0, w1, w2, w3, w4] := five_at (by simp [go_sem]) (by simp [go_sem]) (by simp [go_sem]) (by simp [go_sem]) (by simp [go_sem])
  have HWB := Lib.hid wb
  have HB := Lib.hid (ba1 (w := w) (o := .cells #[.int .i64 w0, .int .i64 w1, .int .i64 w2, .int .i64 w3, .int .i64 w4] 26))
  have hl := Lib.hid (show [w0, w1, w2, w3, w4].length = 5 from rfl)
  clear wb h
  go_enter Tryz.func16, Tryz.ntmps16
  go_wp2
  generalize hX : w.alloc (.cells #[.int .i64 w0, .int .i64 w1, .int .i64 w2, .int .i64 w3, .int .i64 w4] 26) = X at *
  generalize [w0, w1, w2, w3, w4] = ws at *
  clear hX
  go_loopw [3] (fun q wr => ∃ k : Nat, k ≤ 5 ∧ q = .int .i64 k ∧ wr = X ∧ Hid (∀ j x, ws[j]? = some x → j < k → 1 ≤ x ∧ x ≤ 100)) (fun q _ => 5 - (intOf q).toNat)
  case atStart => exact ⟨0, by omega, rfl, rfl, Lib.hid (fun j x _ hj => by omega)⟩
  case round =>
    obtain ⟨k, hk, rfl, rfl, HK⟩ := hrel
    by_cases hlt : k < 5
    · have ik : (k : Int) < 5 := by omega
      obtain ⟨x, hx, hm⟩ := five_get hl.out hlt
      have c := HWB.out.h k x hx
      have lt := HWB.out.lt
      have HX := Lib.hid hx
      have HMx := Lib.hid hm
      clear hx hm
      by_cases hd : 1 ≤ x ∧ x ≤ 100
      · have HD := Lib.hid hd
        have cA := cW.out x true (.inl ⟨hd.1, hd.2, rfl⟩)
        clear hd
        go_wp2_with (fail)
        refine (cA _).mono ?_
        rintro e w2 ⟨rfl, rfl⟩
        have HK2 : Hid (∀ j x, ws[j]? = some x → j < k + 1 → 1 ≤ x ∧ x ≤ 100) := Lib.hid (fun j y hy hj => by
          by_cases e : j = k
          · subst e
            have := HX.out.symm.trans hy
            cases this
            exact HD.out
          · exact HK.out j y hy (by omega))
        clear HK
        go_wp2
        exact ⟨⟨k + 1, by omega, by go_num, trivial, HK2⟩, by simp [intOf]; omega⟩
      · have HD := Lib.hid hd
        have cA := cW.out x false (.inr ⟨hd, rfl⟩)
        clear hd
        go_wp2_with (fail)
        refine (cA _).mono ?_
        rintro e w2 ⟨rfl, rfl⟩
        go_wp2
        go_ret
        rcases HR.out with ⟨h1, h2⟩ | ⟨h1, h2⟩
        · exact absurd (h1.2 x HMx.out) HD.out
        · exact ⟨by rw [h2]; rfl, HB.out⟩
    · obtain rfl : k = 5 := by omega
      go_wp2
      go_ret
      rcases HR.out with ⟨h1, h2⟩ | ⟨h1, h2⟩
      · exact ⟨by rw [h2]; rfl, HB.out⟩
      · refine absurd ⟨hl.out, fun x hx => ?_⟩ h1
        obtain ⟨j, hj⟩ := List.getElem?_of_mem hx
        exact HK.out j x hj (by have := (List.getElem?_eq_some_iff.1 hj).1; have := hl.out; omega)
theorem little_lt (a b c r : Int) (ao : Option Addr) (cap : Nat) (L : List Q) (w : World) (h : LiesO w ao L) (hr : ltR a b c L r) (hlen : L.length ≤ 1000000) : Calls Tryz.prog 81 #[.agg #[.int .i64 a, .int .i64 b, .int .i64 c, .slice ao L.length cap]] w fun e w' => e = .returned (.int .i64 r) ∧ Below w.heap.size w w' := by
  obtain ⟨ns, q, hq⟩ := smR_ex L
  rcases hr with ⟨hr, h0⟩ | ⟨hr, hs, rfl⟩ | ⟨hr, hs, rfl⟩
  · exact little_any a b c r ao cap L [] w h (.inl ⟨hr, h0, rfl⟩) hlen
  · cases q with
    | true => exact little_any a b c 0 ao cap L ns w h (.inr ⟨hr, .inl ⟨hq, rfl⟩⟩) hlen
    | false =>
      exfalso
      rcases hq with ⟨hq, -⟩ | ⟨-, -, k, x, hx, hn⟩
      · exact absurd hq (by decide)
      · exact not_sm hn (hs x (List.mem_of_getElem? hx))
  · cases q with
    | false => exact little_any a b c 7 ao cap L ns w h (.inr ⟨hr, .inr ⟨hq, rfl⟩⟩) hlen
    | true =>
      exfalso
      rcases hq with ⟨-, -, hn⟩ | ⟨hq, -⟩
      · refine hs fun x hx => ?_
        obtain ⟨i, hi⟩ := List.getElem?_of_mem hx
        obtain ⟨n, -, hn⟩ := hn i x (List.getElem?_eq_some_iff.1 hi).1 hi
        exact sm_of hn
      · exact absurd hq (by decide)
set_option maxHeartbeats 3200000 in
theorem given_a (a b c w0 w1 w2 w3 w4 l r : Int) (ao : Option Addr) (cap : Nat) (L : List Q) (w : World) (h : LiesO w ao L) (hr : ltR a b c L r) (h0 : r ≠ 0) (hlen : L.length ≤ 1000000) : Calls Tryz.prog 43 #[.agg #[.int .i64 a, .int .i64 b, .int .i64 c, .slice ao L.length cap], .agg #[.int .i64 w0, .int .i64 w1, .int .i64 w2, .int .i64 w3, .int .i64 w4], .int .i64 l] w fun e w' => e = .returned (.int .i64 r) ∧ Below w.heap.size w w' := by
  have c1 := fun (W : World) (k : LiesO W ao L) => little_lt a b c r ao cap L W k hr hlen
  have t0 : (r != 0) = true := by simpa using h0
  clear hr h0 hlen
  have H := Lib.hid h
  clear h
  have f0 : FW ((w.alloc (.cells #[.int .i64 a, .int .i64 b, .int .i64 c, .slice ao L.length cap] 25)).alloc (.cells #[.int .i64 w0, .int .i64 w1, .int .i64 w2, .int .i64 w3, .int .i64 w4] 26)) w.heap.size a b c (.slice ao L.length cap) := FW.n2a
  have g0 : C5 ((w.alloc (.cells #[.int .i64 a, .int .i64 b, .int .i64 c, .slice ao L.length cap] 25)).alloc (.cells #[.int .i64 w0, .int .i64 w1, .int .i64 w2, .int .i64 w3, .int .i64 w4] 26)) (w.heap.size + 1) (.int .i64 w0) (.int .i64 w1) (.int .i64 w2) (.int .i64 w3) (.int .i64 w4) := ⟨by simp [go_sem], by simp [go_sem], by simp [go_sem], by simp [go_sem], by simp [go_sem], fun j => by simp [go_sem], by simp <;> omega⟩
  have F0 := Lib.hid f0
  have G0 := Lib.hid g0
  clear f0 g0
  go_enter Tryz.func43, Tryz.ntmps43
  go_wp2_with (fail)
  refine (c1 _ (H.out.later ba2)).mono ?_
  rintro e w1 ⟨rfl, hw1⟩
  have F1 := Lib.hid (F0.out.later hw1)
  have G1 := Lib.hid (G0.out.later hw1)
  have B1 := Lib.hid (bel2 hw1)
  clear hw1 F0 G0 c1
  go_wp2
  go_ret
  exact ⟨rfl, B1.out⟩
set_option maxHeartbeats 3200000 in
theorem given_b (a b c w0 w1 w2 w3 w4 l r : Int) (ao : Option Addr) (cap : Nat) (L : List Q) (w : World) (h : LiesO w ao L) (hr : ltR a b c L 0) (hv : vwR [w0, w1, w2, w3, w4] r) (h0 : r ≠ 0) (hlen : L.length ≤ 1000000) : Calls Tryz.prog 43 #[.agg #[.int .i64 a, .int .i64 b, .int .i64 c, .slice ao L.length cap], .agg #[.int .i64 w0, .int .i64 w1, .int .i64 w2, .int .i64 w3, .int .i64 w4], .int .i64 l] w fun e w' => e = .returned (.int .i64 r) ∧ Below w.heap.size w w' := by
  have c1 := fun (W : World) (k : LiesO W ao L) => little_lt a b c 0 ao cap L W k hr hlen
  have c2 := fun (W : World) => refVw_any w0 w1 w2 w3 w4 r W hv
  have t0 : (r != 0) = true := by simpa using h0
  clear hr h0 hlen hv
  have H := Lib.hid h
  clear h
  have f0 : FW ((w.alloc (.cells #[.int .i64 a, .int .i64 b, .int .i64 c, .slice ao L.length cap] 25)).alloc (.cells #[.int .i64 w0, .int .i64 w1, .int .i64 w2, .int .i64 w3, .int .i64 w4] 26)) w.heap.size a b c (.slice ao L.length cap) := FW.n2a
  have g0 : C5 ((w.alloc (.cells #[.int .i64 a, .int .i64 b, .int .i64 c, .slice ao L.length cap] 25)).alloc (.cells #[.int .i64 w0, .int .i64 w1, .int .i64 w2, .int .i64 w3, .int .i64 w4] 26)) (w.heap.size + 1) (.int .i64 w0) (.int .i64 w1) (.int .i64 w2) (.int .i64 w3) (.int .i64 w4) := ⟨by simp [go_sem], by simp [go_sem], by simp [go_sem], by simp [go_sem], by simp [go_sem], fun j => by simp [go_sem], by simp <;> omega⟩
  have F0 := Lib.hid f0
  have G0 := Lib.hid g0
  clear f0 g0
  go_enter Tryz.func43, Tryz.ntmps43
  go_wp2_with (fail)
  refine (c1 _ (H.out.later ba2)).mono ?_
  rintro e w1 ⟨rfl, hw1⟩
  have F1 := Lib.hid (F0.out.later hw1)
  have G1 := Lib.hid (G0.out.later hw1)
  have B1 := Lib.hid (bel2 hw1)
  clear hw1 F0 G0 c1
  obtain ⟨g0, g1, g2, g3, g4, gf, gl⟩ := G1.out
  go_wp2_with (fail)
  refine (c2 _).mono ?_
  rintro e w2 ⟨rfl, hw2⟩
  have B2 := Lib.hid (B1.out.trans (hw2.mono B1.out.size))
  go_wp2
  go_ret
  exact ⟨rfl, B2.out⟩
set_option maxHeartbeats 3200000 in
theorem given_c (a b c w0 w1 w2 w3 w4 l r : Int) (ao : Option Addr) (cap : Nat) (L : List Q) (w : World) (h : LiesO w ao L) (hr : ltR a b c L 0) (hv : vwR [w0, w1, w2, w3, w4] 0) (d : Bool) (hd : (0 ≤ l ∧ l ≤ (L.length : Int) - 1 ∧ d = true ∧ r = 0) ∨ (¬ (0 ≤ l ∧ l ≤ (L.length : Int) - 1) ∧ d = false ∧ r = 4)) (hlen : L.length ≤ 1000000) : Calls Tryz.prog 43 #[.agg #[.int .i64 a, .int .i64 b, .int .i64 c, .slice ao L.length cap], .agg #[.int .i64 w0, .int .i64 w1, .int .i64 w2, .int .i64 w3, .int .i64 w4], .int .i64 l] w fun e w' => e = .returned (.int .i64 r) ∧ Below w.heap.size w w' := by
  have c1 := fun (W : World) (k : LiesO W ao L) => little_lt a b c 0 ao cap L W k hr hlen
  have c2 := fun (W : World) => refVw_any w0 w1 w2 w3 w4 0 W hv
  have c3 := fun (W : World) => within5v_any l 0 ((L.length : Int) - 1) W d (by
    rcases hd with ⟨h1, h2, h3, h4⟩ | ⟨h1, h2, h3⟩
    · exact .inl ⟨h1, h2, h3⟩
    · exact .inr ⟨h1, h2⟩)
  have HD : Hid ((d = true ∧ r = 0) ∨ (d = false ∧ r = 4)) := Lib.hid (by
    rcases hd with ⟨h1, h2, h3, h4⟩ | ⟨h1, h2, h3⟩
    · exact .inl ⟨h3, h4⟩
    · exact .inr ⟨h2, h3⟩)
  clear hr hv hd
  have H := Lib.hid h
  clear h
  have f0 : FW ((w.alloc (.cells #[.int .i64 a, .int .i64 b, .int .i64 c, .slice ao L.length cap] 25)).alloc (.cells #[.int .i64 w0, .int .i64 w1, .int .i64 w2, .int .i64 w3, .int .i64 w4] 26)) w.heap.size a b c (.slice ao L.length cap) := FW.n2a
  have g0 : C5 ((w.alloc (.cells #[.int .i64 a, .int .i64 b, .int .i64 c, .slice ao L.length cap] 25)).alloc (.cells #[.int .i64 w0, .int .i64 w1, .int .i64 w2, .int .i64 w3, .int .i64 w4] 26)) (w.heap.size + 1) (.int .i64 w0) (.int .i64 w1) (.int .i64 w2) (.int .i64 w3) (.int .i64 w4) := ⟨by simp [go_sem], by simp [go_sem], by simp [go_sem], by simp [go_sem], by simp [go_sem], fun j => by simp [go_sem], by simp <;> omega⟩
  have F0 := Lib.hid f0
  have G0 := Lib.hid g0
  clear f0 g0
  go_enter Tryz.func43, Tryz.ntmps43
  go_wp2_with (fail)
  refine (c1 _ (H.out.later ba2)).mono ?_
  rintro e w1 ⟨rfl, hw1⟩
  have F1 := Lib.hid (F0.out.later hw1)
  have G1 := Lib.hid (G0.out.later hw1)
  have B1 := Lib.hid (bel2 hw1)
  clear hw1 F0 G0 c1
  obtain ⟨g0, g1, g2, g3, g4, gf, gl⟩ := G1.out
  go_wp2_with (fail)
  refine (c2 _).mono ?_
  rintro e w2 ⟨rfl, hw2⟩
  have B2 := Lib.hid (B1.out.trans (hw2.mono B1.out.size))
  have F2 := Lib.hid (F1.out.later hw2)
  clear hw2 F1 G1 g0 g1 g2 g3 g4 gf gl c2
  obtain ⟨f0, f1, f2, f3, ff, fl⟩ := F2.out
  go_wp2_with (fail)
  refine (c3 _).mono ?_
  rintro e w3 ⟨rfl, rfl⟩
  rcases HD.out with ⟨rfl, rfl⟩ | ⟨rfl, rfl⟩
  · go_wp2
    go_ret
    exact ⟨rfl, B2.out⟩
  · go_wp2
    go_ret
    exact ⟨rfl, B2.out⟩
theorem refGiven_any (a b c w0 w1 w2 w3 w4 l r : Int) (ao : Option Addr) (cap : Nat) (L : List Q) (w : World) (h : LiesO w ao L) (hr : clR a b c L [w0, w1, w2, w3, w4] l r) (hlen : L.length ≤ 1000000) : Calls Tryz.prog 43 #[.agg #[.int .i64 a, .int .i64 b, .int .i64 c, .slice ao L.length cap], .agg #[.int .i64 w0, .int .i64 w1, .int .i64 w2, .int .i64 w3, .int .i64 w4], .int .i64 l] w fun e w' => e = .returned (.int .i64 r) ∧ Below w.heap.size w w' := by
  rcases hr with ⟨hk, h0⟩ | ⟨hk, hd⟩
  · rcases hk with ⟨h1, _⟩ | ⟨h1, h2⟩
    · exact given_a a b c w0 w1 w2 w3 w4 l r ao cap L w h h1 h0 hlen
    · exact given_b a b c w0 w1 w2 w3 w4 l r ao cap L w h h1 h2 h0 hlen
  · rcases hk with ⟨_, h1⟩ | ⟨h1, h2⟩
    · exact absurd rfl h1
    · rcases hd with ⟨d1, d2, rfl⟩ | ⟨d1, rfl⟩
      · exact given_c a b c w0 w1 w2 w3 w4 l 0 ao cap L w h h1 h2 true (.inl ⟨d1, by omega, rfl, rfl⟩) hlen
      · exact given_c a b c w0 w1 w2 w3 w4 l 4 ao cap L w h h1 h2 false (.inr ⟨by omega, rfl, rfl⟩) hlen
end Go.Proofs.YtpfhjdmgkckjfaaGreatDoor
