/- Which weights are right, and what is asked of a field, weights and a link, as the document's answers say it.
Conditions: those written at each theorem. -/
import Derived.Test.YtpfhjdmgkckjfaaGreatDoorAChkC
import Derived.Test.YtpfhjdmgkckjfaaGreatDoorAWlkA
import Derived.Test.YtpfhjdmgkckjfaaGreatDoorALitC
import Derived.Test.YtpfhjdmgkckjfaaGreatDoorASame4
import Derived.Test.YtpfhjdmgkckjfaaGreatDoorATabB
import Derived.Deep.CutRange
namespace Go.Proofs.YtpfhjdmgkckjfaaGreatDoor
set_option linter.unusedVariables false
set_option linter.unusedSimpArgs false
set_option maxRecDepth 1000000
open Go.RowKit
open Um Tm Cm

theorem within5v_any (n lo hi : Int) (w : World) (r : Bool) (h : (lo ≤ n ∧ n ≤ hi ∧ r = true) ∨ (¬ (lo ≤ n ∧ n ≤ hi) ∧ r = false)) :
    Calls Tryz.prog 45 #[.int .i64 n, .int .i64 lo, .int .i64 hi] w fun e w' => e = .returned (.bool r) ∧ w = w' := by
  rcases h with ⟨a, b, rfl⟩ | ⟨h, rfl⟩
  · go_enter Tryz.func45, Tryz.ntmps45
    go_wp2
    go_ret
    exact ⟨rfl, rfl⟩
  · by_cases a : lo ≤ n
    · have b : ¬ n ≤ hi := fun b => h ⟨a, b⟩
      clear h
      go_enter Tryz.func45, Tryz.ntmps45
      go_wp2
      go_ret
      exact ⟨rfl, rfl⟩
    · clear h
      go_enter Tryz.func45, Tryz.ntmps45
      go_wp2
      go_ret
      exact ⟨rfl, rfl⟩
theorem five_get {l : List Int} (h : l.length = 5) {k : Nat} (hk : k < 5) : ∃ x, l[k]? = some x ∧ x ∈ l := ⟨_, List.getElem?_eq_getElem (by omega), List.getElem_mem _⟩
set_option maxHeartbeats 3200000 in
theorem refVw_any (w0 w1 w2 w3 w4 r : Int) (w : World) (h : vwR [w0, w1, w2, w3, w4] r) : Calls Tryz.prog 16 #[.agg #[.int .i64 w0, .int .i64 w1, .int .i64 w2, .int .i64 w3, .int .i64 w4]] w fun e w' => e = .returned (.int .i64 r) ∧ Below w.heap.size w w' := by
  have cW := Lib.hid (fun (x : Int) (d : Bool) (hd : (1 ≤ x ∧ x ≤ 100 ∧ d = true) ∨ (¬ (1 ≤ x ∧ x ≤ 100) ∧ d = false)) (W : World) => within5v_any x 1 100 W d hd)
  have HR := Lib.hid h
  have wb : WB (w.alloc (.cells #[.int .i64 w0, .int .i64 w1, .int .i64 w2, .int .i64 w3, .int .i64 w4] 26)) w.heap.size [w0, w1, w2, w3, w4] := five_at (by simp [go_sem]) (by simp [go_sem]) (by simp [go_sem]) (by simp [go_sem]) (by simp [go_sem])
  have HWB := Lib.hid wb
  have HB := Lib.hid (ba1 (w := w) (o := .cells #[.int .i64 w0, .int .i64 w1, .int .i64 w2, .int .i64 w3, .int .i64 w4] 26))
  have hl := Lib.hid (show [w0, w1, w2, w3, w4].length = 5 from rfl)
  clear wb h
  go_enter Tryz.func16, Tryz.ntmps16
  go_wp2
  generalize hX : w.alloc (.cells #[.int .i64 w0, .int .i64 w1, .int .i64 w2, .int .i64 w3, .int .i64 w4] 26) = X at *
  generalize [w0, w1, w2, w3, w4] = ws at *
  clear hX
  go_loopw [3] (fun q wr => ∃ k : Nat, k ≤ 5 ∧ q = .int .i64 k ∧ wr = X ∧ Hid (∀ j x, ws[j]? = some x → j < k → 1 ≤ x ∧ x ≤ 100)) (fun q _ => 5 - (intOf q).toNat)
  case atStart => exact ⟨0, by omega, rfl, rfl, Lib.hid (fun j x _ hj => by omega)⟩
  case round =>
    obtain ⟨k, hk, rfl, rfl, HK⟩ := hrel
    by_cases hlt : k < 5
    · have ik : (k : Int) < 5 := by omega
      obtain ⟨x, hx, hm⟩ := five_get hl.out hlt
      have c := HWB.out.h k x hx
      have lt := HWB.out.lt
      have HX := Lib.hid hx
      have HMx := Lib.hid hm
      clear hx hm
      by_cases hd : 1 ≤ x ∧ x ≤ 100
      · have HD := Lib.hid hd
        have cA := cW.out x true (.inl ⟨hd.1, hd.2, rfl⟩)
        clear hd
        go_wp2_with (fail)
        refine (cA _).mono ?_
        rintro e w2 ⟨rfl, rfl⟩
        have HK2 : Hid (∀ j x, ws[j]? = some x → j < k + 1 → 1 ≤ x ∧ x ≤ 100) := Lib.hid (fun j y hy hj => by
          by_cases e : j = k
          · subst e
            have := HX.out.symm.trans hy
            cases this
            exact HD.out
          · exact HK.out j y hy (by omega))
        clear HK
        go_wp2
        exact ⟨⟨k + 1, by omega, by go_num, trivial, HK2⟩, by simp [intOf]; omega⟩
      · have HD := Lib.hid hd
        have cA := cW.out x false (.inr ⟨hd, rfl⟩)
        clear hd
        go_wp2_with (fail)
        refine (cA _).mono ?_
        rintro e w2 ⟨rfl, rfl⟩
        go_wp2
        go_ret
        rcases HR.out with ⟨h1, h2⟩ | ⟨h1, h2⟩
        · exact absurd (h1.2 x HMx.out) HD.out
        · exact ⟨by rw [h2]; rfl, HB.out⟩
    · obtain rfl : k = 5 := by omega
      go_wp2
      go_ret
      rcases HR.out with ⟨h1, h2⟩ | ⟨h1, h2⟩
      · exact ⟨by rw [h2]; rfl, HB.out⟩
      · refine absurd ⟨hl.out, fun x hx => ?_⟩ h1
        obtain ⟨j, hj⟩ := List.getElem?_of_mem hx
        exact HK.out j x hj (by have := (List.getElem?_eq_some_iff.1 hj).1; have := hl.out; omega)
theorem little_lt (a b c r : Int) (ao : Option Addr) (cap : Nat) (L : List Q) (w : World) (h : LiesO w ao L) (hr : ltR a b c L r) (hlen : L.length ≤ 1000000) : Calls Tryz.prog 81 #[.agg #[.int .i64 a, .int .i64 b, .int .i64 c, .slice ao L.length cap]] w fun e w' => e = .returned (.int .i64 r) ∧ Below w.heap.size w w' := by
  obtain ⟨ns, q, hq⟩ := smR_ex L
  rcases hr with ⟨hr, h0⟩ | ⟨hr, hs, rfl⟩ | ⟨hr, hs, rfl⟩
  · exact little_any a b c r ao cap L [] w h (.inl ⟨hr, h0, rfl⟩) hlen
  · cases q with
    | true => exact little_any a b c 0 ao cap L ns w h (.inr ⟨hr, .inl ⟨hq, rfl⟩⟩) hlen
    | false =>
      exfalso
      rcases hq with ⟨hq, -⟩ | ⟨-, -, k, x, hx, hn⟩
      · exact absurd hq (by decide)
      · exact not_sm hn (hs x (List.mem_of_getElem? hx))
  · cases q with
    | false => exact little_any a b c 7 ao cap L ns w h (.inr ⟨hr, .inr ⟨hq, rfl⟩⟩) hlen
    | true =>
      exfalso
      rcases hq with ⟨-, -, hn⟩ | ⟨hq, -⟩
      · refine hs fun x hx => ?_
        obtain ⟨i, hi⟩ := List.getElem?_of_mem hx
        obtain ⟨n, -, hn⟩ := hn i x (List.getElem?_eq_some_iff.1 hi).1 hi
        exact sm_of hn
      · exact absurd hq (by decide)
end Go.Proofs.YtpfhjdmgkckjfaaGreatDoor

namespace Go.Proofs.YtpfhjdmgkckjfaaGreatDoor
set_option linter.unusedVariables false
set_option linter.unusedSimpArgs false
set_option maxRecDepth 1000000
open Go.RowKit
open Um Tm

set_option maxHeartbeats 3200000 in
theorem refWith_any (a b c l : Int) (u : Q) (bl off cap : Nat) (L : List Q) (w : World) (hl : Lies w bl off L) (hpos : 0 < L.length) (hlen : L.length ≤ 100) (h0 : 0 ≤ l) (h1 : l < (L.length : Int)) : Calls Tryz.prog 52 #[.agg #[.int .i64 a, .int .i64 b, .int .i64 c, .slice (some ⟨bl, off, none⟩) L.length cap], .int .i64 l, .agg #[.int .i64 u.a, .int .i64 u.b, .int .i64 u.c, .int .i64 u.d, .int .i64 u.n]] w fun e w' => (∃ g k : Nat, e = .returned (.agg #[.int .i64 a, .int .i64 b, .int .i64 c, .slice (some ⟨g, 0, none⟩) L.length k]) ∧ LBox w' g (L.set l.toNat u) ∧ w.heap.size ≤ g) ∧ Below w.heap.size w w' := by
  have H := Lib.hid hl
  have cC := fun (W : World) (h : Lies W bl off L) => refCopy4_some a b c bl off cap L W h hpos hlen
  have i2 : l.toNat < L.length := by omega
  obtain ⟨x, hx⟩ : ∃ x, L[l.toNat]? = some x := ⟨_, List.getElem?_eq_getElem i2⟩
  have HX := Lib.hid hx
  clear hl hx hpos
  go_enter Tryz.func52, Tryz.ntmps52
  have F0 : Hid (FW (((w.alloc (.cells #[.int .i64 a, .int .i64 b, .int .i64 c, .slice (some ⟨bl, off, none⟩) L.length cap] 25)).alloc (.cells #[.int .i64 u.a, .int .i64 u.b, .int .i64 u.c, .int .i64 u.d, .int .i64 u.n] 73)).alloc (.cells #[.int .i64 0, .int .i64 0, .int .i64 0, .slice none 0 0] 25)) w.heap.size a b c (.slice (some ⟨bl, off, none⟩) L.length cap)) := Lib.hid FW.n3a
  have R0 : Hid (FW (((w.alloc (.cells #[.int .i64 a, .int .i64 b, .int .i64 c, .slice (some ⟨bl, off, none⟩) L.length cap] 25)).alloc (.cells #[.int .i64 u.a, .int .i64 u.b, .int .i64 u.c, .int .i64 u.d, .int .i64 u.n] 73)).alloc (.cells #[.int .i64 0, .int .i64 0, .int .i64 0, .slice none 0 0] 25)) (w.heap.size + 1 + 1) 0 0 0 (.slice none 0 0)) := Lib.hid FW.n3c
  have U0 : Hid (LBox (((w.alloc (.cells #[.int .i64 a, .int .i64 b, .int .i64 c, .slice (some ⟨bl, off, none⟩) L.length cap] 25)).alloc (.cells #[.int .i64 u.a, .int .i64 u.b, .int .i64 u.c, .int .i64 u.d, .int .i64 u.n] 73)).alloc (.cells #[.int .i64 0, .int .i64 0, .int .i64 0, .slice none 0 0] 25)) (w.heap.size + 1) [u]) := Lib.hid ⟨fun i z hz => by
    match i, hz with
    | 0, hz => simp at hz; subst hz; exact ⟨by simp [go_sem], by simp [go_sem], by simp [go_sem], by simp [go_sem], by simp [go_sem]⟩
    | n + 1, hz => simp at hz, fun j => by simp [go_sem], by simp <;> omega⟩
  go_wp2_with (fail)
  refine (cC _ (H.out.later ba3)).mono ?_
  rintro e w1 ⟨g, k, rfl, LB, hg, hw1⟩
  have O1 : Hid (FW (w1.alloc (.cells #[.int .i64 a, .int .i64 b, .int .i64 c, .slice (some ⟨g, 0, none⟩) L.length k] 25)) w1.heap.size a b c (.slice (some ⟨g, 0, none⟩) L.length k)) := Lib.hid ⟨by simp [go_sem], by simp [go_sem], by simp [go_sem], by simp [go_sem], fun j => by simp [go_sem], by simp⟩
  have R1 := Lib.hid ((R0.out.later hw1).later (ba1 (o := .cells #[.int .i64 a, .int .i64 b, .int .i64 c, .slice (some ⟨g, 0, none⟩) L.length k] 25)))
  have U1 := Lib.hid ((U0.out.later hw1).later (ba1 (o := .cells #[.int .i64 a, .int .i64 b, .int .i64 c, .slice (some ⟨g, 0, none⟩) L.length k] 25)))
  have L1 := Lib.hid (LB.later (ba1 (o := .cells #[.int .i64 a, .int .i64 b, .int .i64 c, .slice (some ⟨g, 0, none⟩) L.length k] 25)))
  have b1 : Below w.heap.size w w1 := ba3.trans (hw1.mono ba3.size)
  have B1 := Lib.hid (b1.trans ((ba1 (o := .cells #[.int .i64 a, .int .i64 b, .int .i64 c, .slice (some ⟨g, 0, none⟩) L.length k] 25)).mono b1.size))
  have HG := Lib.hid (And.intro (show w.heap.size + 1 + 1 < g from Nat.lt_of_lt_of_le R0.out.lt hg) LB.lt)
  clear hw1 F0 R0 U0 LB hg b1 cC
  go_upto_region 2 with (fail)
  generalize w1.alloc (.cells #[.int .i64 a, .int .i64 b, .int .i64 c, .slice (some ⟨g, 0, none⟩) L.length k] 25) = X at *
  generalize w1.heap.size = ob at *
  obtain ⟨o0, o1, o2, o3, of, ol⟩ := O1.out
  obtain ⟨r0, r1, r2, r3, rf, rl⟩ := R1.out
  obtain ⟨⟨u0, u1, u2, u3, u4⟩, uf, ul⟩ := one_boxI U1.out
  obtain ⟨l0, l1, l2, l3, l4⟩ := L1.out.at HX.out
  have lf := L1.out.free
  have ll := L1.out.lt
  obtain ⟨hgr, hgo⟩ := HG.out
  have n1 : ¬ g = w.heap.size + 1 + 1 := by omega
  have n2 : ¬ w.heap.size + 1 + 1 = g := by omega
  have n3 : ¬ g = ob := by omega
  have n4 : ¬ ob = g := by omega
  have hob : w.heap.size + 1 + 1 < ob := by omega
  have G1 := grown_setCells g (uc u) (l.toNat * 5) X
  have L2 := L1.out.put l.toNat i2 u
  have hb4 := B1.out.grown G1 B1.out.size (fun j hj => by cases hj; omega)
  have G2 := grown_setCells (w.heap.size + 1 + 1) [.int .i64 a, .int .i64 b, .int .i64 c, .slice (some ⟨g, 0, none⟩) L.length k] 0 (X.setCells g (l.toNat * 5) (uc u))
  have L3 := Lib.hid (L2.grown G2 (by simp; omega))
  have B3 := Lib.hid (hb4.grown G2 hb4.size (fun j hj => by cases hj; omega))
  clear G1 L2 hb4 G2 O1 R1 U1 L1 B1
  go_wp2
  refine bodyPost_ret (v := .agg #[.int .i64 a, .int .i64 b, .int .i64 c, .slice (some ⟨g, 0, none⟩) L.length k]) ?_ rfl ⟨⟨g, k, rfl, L3.out, by omega⟩, B3.out⟩
  simp [results, Tryz.results52, go_sem, r0, r1, r2, r3, rl, n1, n2]
end Go.Proofs.YtpfhjdmgkckjfaaGreatDoor
