/- A field with another unit at a link, as the document's answers make it.
Conditions: those written at the theorem. -/
import Derived.Test.YtpfhjdmgkckjfaaGreatDoorFCopR
import Derived.Test.YtpfhjdmgkckjfaaGreatDoorFOpenA5
import Derived.Deep.CutRange
namespace Go.Proofs.YtpfhjdmgkckjfaaGreatDoor
set_option linter.unusedVariables false
set_option linter.unusedSimpArgs false
set_option maxRecDepth 1000000
open Go.RowKit
open Um Tm

set_option maxHeartbeats 3200000 in
theorem refWith_any (a b c l : Int) (u : Q) (bl off cap : Nat) (L : List Q) (w : World) (hl : Lies w bl off L) (hpos : 0 < L.length) (hlen : L.length ≤ 100) (h0 : 0 ≤ l) (h1 : l < (L.length : Int)) : Calls Tryz.prog 52 #[.agg #[.int .i64 a, .int .i64 b, .int .i64 c, .slice (some ⟨bl, off, none⟩) L.length cap], .int .i64 l, .agg #[.int .i64 u.a, .int .i64 u.b, .int .i64 u.c, .int .i64 u.d, .int .i64 u.n]] w fun e w' => (∃ g k : Nat, e = .returned (.agg #[.int .i64 a, .int .i64 b, .int .i64 c, .slice (some ⟨g, 0, none⟩) L.length k]) ∧ LBox w' g (L.set l.toNat u) ∧ w.heap.size ≤ g) ∧ Below w.heap.size w w' := by
  have H := Lib.hid hl
  have cC := fun (W : World) (h : Lies W bl off L) => refCopy4_some a b c bl off cap L W h hpos hlen
  have i2 : l.toNat < L.length := by omega
  obtain ⟨x, hx⟩ : ∃ x, L[l.toNat]? = some x := ⟨_, List.getElem?_eq_getElem i2⟩
  have HX := Lib.hid hx
  clear hl hx hpos
  go_enter Tryz.func52, Tryz.ntmps52
  have F0 : Hid (FW (((w.alloc (.cells #[.int .i64 a, .int .i64 b, .int .i64 c, .slice (some ⟨bl, off, none⟩) L.length cap] 25)).alloc (.cells #[.int .i64 u.a, .int .i64 u.b, .int .i64 u.c, .int .i64 u.d, .int .i64 u.n] 73)).alloc (.cells #[.int .i64 0, .int .i64 0, .int .i64 0, .slice none 0 0] 25)) w.heap.size a b c (.slice (some ⟨bl, off, none⟩) L.length cap)) := Lib.hid FW.n3a
  have R0 : Hid (FW (((w.alloc (.cells #[.int .i64 a, .int .i64 b, .int .i64 c, .slice (some ⟨bl, off, none⟩) L.length cap] 25)).alloc (.cells #[.int .i64 u.a, .int .i64 u.b, .int .i64 u.c, .int .i64 u.d, .int .i64 u.n] 73)).alloc (.cells #[.int .i64 0, .int .i64 0, .int .i64 0, .slice none 0 0] 25)) (w.heap.size + 1 + 1) 0 0 0 (.slice none 0 0)) := Lib.hid FW.n3c
  have U0 : Hid (LBox (((w.alloc (.cells #[.int .i64 a, .int .i64 b, .int .i64 c, .slice (some ⟨bl, off, none⟩) L.length cap] 25)).alloc (.cells #[.int .i64 u.a, .int .i64 u.b, .int .i64 u.c, .int .i64 u.d, .int .i64 u.n] 73)).alloc (.cells #[.int .i64 0, .int .i64 0, .int .i64 0, .slice none 0 0] 25)) (w.heap.size + 1) [u]) := Lib.hid ⟨fun i z hz => by
    match i, hz with
    | 0, hz => simp at hz; subst hz; exact ⟨by simp [go_sem], by simp [go_sem], by simp [go_sem], by simp [go_sem], by simp [go_sem]⟩
    | n + 1, hz => simp at hz, fun j => by simp [go_sem], by simp <;> omega⟩
  go_wp2_with (fail)
  refine (cC _ (H.out.later ba3)).mono ?_
  rintro e w1 ⟨g, k, rfl, LB, hg, hw1⟩
  have O1 : Hid (FW (w1.alloc (.cells #[.int .i64 a, .int .i64 b, .int .i64 c, .slice (some ⟨g, 0, none⟩) L.length k] 25)) w1.heap.size a b c (.slice (some ⟨g, 0, none⟩) L.length k)) := Lib.hid ⟨by simp [go_sem], by simp [go_sem], by simp [go_sem], by simp [go_sem], fun j => by simp [go_sem], by simp⟩
  have R1 := Lib.hid ((R0.out.later hw1).later (ba1 (o := .cells #[.int .i64 a, .int .i64 b, .int .i64 c, .slice (some ⟨g, 0, none⟩) L.length k] 25)))
  have U1 := Lib.hid ((U0.out.later hw1).later (ba1 (o := .cells #[.int .i64 a, .int .i64 b, .int .i64 c, .slice (some ⟨g, 0, none⟩) L.length k] 25)))
  have L1 := Lib.hid (LB.later (ba1 (o := .cells #[.int .i64 a, .int .i64 b, .int .i64 c, .slice (some ⟨g, 0, none⟩) L.length k] 25)))
  have b1 : Below w.heap.size w w1 := ba3.trans (hw1.mono ba3.size)
  have B1 := Lib.hid (b1.trans ((ba1 (o := .cells #[.int .i64 a, .int .i64 b, .int .i64 c, .slice (some ⟨g, 0, none⟩) L.length k] 25)).mono b1.size))
  have HG := Lib.hid (And.intro (show w.heap.size + 1 + 1 < g from Nat.lt_of_lt_of_le R0.out.lt hg) LB.lt)
  clear hw1 F0 R0 U0 LB hg b1 cC
  go_upto_region 2 with (fail)
  generalize w1.alloc (.cells #[.int .i64 a, .int .i64 b, .int .i64 c, .slice (some ⟨g, 0, none⟩) L.length k] 25) = X at *
  generalize w1.heap.size = ob at *
  obtain ⟨o0, o1, o2, o3, of, ol⟩ := O1.out
  obtain ⟨r0, r1, r2, r3, rf, rl⟩ := R1.out
  obtain ⟨⟨u0, u1, u2, u3, u4⟩, uf, ul⟩ := one_boxI U1.out
  obtain ⟨l0, l1, l2, l3, l4⟩ := L1.out.at HX.out
  have lf := L1.out.free
  have ll := L1.out.lt
  obtain ⟨hgr, hgo⟩ := HG.out
  have n1 : ¬ g = w.heap.size + 1 + 1 := by omega
  have n2 : ¬ w.heap.size + 1 + 1 = g := by omega
  have n3 : ¬ g = ob := by omega
  have n4 : ¬ ob = g := by omega
  have hob : w.heap.size + 1 + 1 < ob := by omega
  have G1 := grown_setCells g (uc u) (l.toNat * 5) X
  have L2 := L1.out.put l.toNat i2 u
  have hb4 := B1.out.grown G1 B1.out.size (fun j hj => by cases hj; omega)
  have G2 := grown_setCells (w.heap.size + 1 + 1) [.int .i64 a, .int .i64 b, .int .i64 c, .slice (some ⟨g, 0, none⟩) L.length k] 0 (X.setCells g (l.toNat * 5) (uc u))
  have L3 := Lib.hid (L2.grown G2 (by simp; omega))
  have B3 := Lib.hid (hb4.grown G2 hb4.size (fun j hj => by cases hj; omega))
  clear G1 L2 hb4 G2 O1 R1 U1 L1 B1
  go_wp2
  refine bodyPost_ret (v := .agg #[.int .i64 a, .int .i64 b, .int .i64 c, .slice (some ⟨g, 0, none⟩) L.length k]) ?_ rfl ⟨⟨g, k, rfl, L3.out, by omega⟩, B3.out⟩
  simp [results, Tryz.results52, go_sem, r0, r1, r2, r3, rl, n1, n2]
end Go.Proofs.YtpfhjdmgkckjfaaGreatDoor
