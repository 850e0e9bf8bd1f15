/- A field, copied, as the document's answers of layer 4 make it.
Conditions: the field lies in memory and has at most 100 links. -/
import Derived.Test.YtpfhjdmgkckjfaaGreatDoorHOpenW5
import Derived.Deep.CutRange
namespace Go.Proofs.YtpfhjdmgkckjfaaGreatDoor
set_option linter.unusedVariables false
set_option linter.unusedSimpArgs false
set_option maxRecDepth 1000000
open Go.RowKit
open Um Tm

set_option maxHeartbeats 3200000 in
theorem refCopy4_some (a b c : Int) (bl off cap : Nat) (L : List Q) (w : World) (hl : Lies w bl off L) (hpos : 0 < L.length) (hlen : L.length ≤ 100) : Calls Tryz.prog 17 #[.agg #[.int .i64 a, .int .i64 b, .int .i64 c, .slice (some ⟨bl, off, none⟩) L.length cap]] w fun e w' => ∃ g k : Nat, e = .returned (.agg #[.int .i64 a, .int .i64 b, .int .i64 c, .slice (some ⟨g, 0, none⟩) L.length k]) ∧ LBox w' g L ∧ w.heap.size ≤ g ∧ Below w.heap.size w w' := by
  obtain ⟨i0, hi, hz0, hz1, hz2⟩ := info_parts infoU
  have H := Lib.hid hl
  clear hl
  go_enter Tryz.func17, Tryz.ntmps17
  go_wp2
  obtain ⟨W0, hW0⟩ : ∃ W0, (w.alloc (.cells #[.int .i64 a, .int .i64 b, .int .i64 c, .slice (some ⟨bl, off, none⟩) L.length cap] 25)).alloc (.cells #[.int .i64 0, .int .i64 0, .int .i64 0, .slice none 0 0] 25) = W0 := ⟨_, rfl⟩
  have F0 : FW W0 w.heap.size a b c (.slice (some ⟨bl, off, none⟩) L.length cap) := by rw [← hW0]; exact ⟨by simp [go_sem], by simp [go_sem], by simp [go_sem], by simp [go_sem], fun j => by simp [go_sem], by simp <;> omega⟩
  have R0 : FW W0 (w.heap.size + 1) 0 0 0 (.slice none 0 0) := by rw [← hW0]; exact ⟨by simp [go_sem], by simp [go_sem], by simp [go_sem], by simp [go_sem], fun j => by simp [go_sem], by simp⟩
  have hB0 : Below w.heap.size w W0 := by rw [← hW0]; repeat (first | (with_reducible exact Below.refl _ _) | (with_reducible refine Below.setCell ?_ ?_ _) | (with_reducible refine Below.drew ?_) | (with_reducible refine Below.alloc ?_ ?_ _) | omega | (simp <;> omega))
  have hs0 : W0.heap.size = w.heap.size + 2 := by rw [← hW0]; simp
  rw [hW0]
  clear hW0
  obtain ⟨f0, f1, f2, f3, ff, fl⟩ := F0
  have RR := Lib.hid R0
  clear R0
  have own0 : (W0.alloc (.cells #[] 73)).ownsRow (w.heap.size + 2) 73 5 (.slice (some ⟨w.heap.size + 2, 0, none⟩) 0 0) 0 [] := by
    have := World.ownsRow_lit (base := W0.heap.size) (e := 73) (size := 5) W0 #[] 0 (Nat.le_refl _) (by unfold maxLen; omega) (by simp)
    rwa [hs0] at this
  have R1 : FW (W0.alloc (.cells #[] 73)).drew (w.heap.size + 1) 0 0 0 (.slice none 0 0) := RR.out.later (by repeat (first | (with_reducible exact Below.refl _ _) | (with_reducible refine Below.setCell ?_ ?_ _) | (with_reducible refine Below.drew ?_) | (with_reducible refine Below.alloc ?_ ?_ _) | omega | (simp <;> omega)))
  have RR1 := Lib.hid R1
  clear R1
  go_region_held3 (fun w' => w'.cell? ⟨w.heap.size, 0, none⟩ = some (.int .i64 a) ∧ w'.cell? ⟨w.heap.size, 1, none⟩ = some (.int .i64 b) ∧ w'.cell? ⟨w.heap.size, 2, none⟩ = some (.int .i64 c) ∧ w'.cell? ⟨w.heap.size, 3, none⟩ = some (.slice (some ⟨bl, off, none⟩) L.length cap))
    (first
      | go_keep
      | (go_split_ands
         refine ⟨?_, ?_, ?_, ?_⟩
         · (rw [hgrow.cell_far _ (by simp <;> omega) (by simp [Value.ownBlock] <;> omega)]; assumption)
         · (rw [hgrow.cell_far _ (by simp <;> omega) (by simp [Value.ownBlock] <;> omega)]; assumption)
         · (rw [hgrow.cell_far _ (by simp <;> omega) (by simp [Value.ownBlock] <;> omega)]; assumption)
         · (rw [hgrow.cell_far _ (by simp <;> omega) (by simp [Value.ownBlock] <;> omega)]; assumption)))
    ((refine step_append_lies _ (by rfl) _ _ _ (by rfl) (w.heap.size + 2) 73 i0 _ 5 40 Tryz.underlying23 hi hz0 hz1 hz2 rfl (by omega) (.slice (some ⟨w.heap.size + 2, 0, none⟩) 0 0) 0 [] (by rfl) own0.drew
        ⟨bl, off, none⟩ L.length cap (L.flatMap uc) (by rfl) (flat_len uc 5 uc_len L) (lies_news (H.out.later (by repeat (first | (with_reducible exact Below.refl _ _) | (with_reducible refine Below.setCell ?_ ?_ _) | (with_reducible refine Below.drew ?_) | (with_reducible refine Below.alloc ?_ ?_ _) | (with_reducible refine Below.trans ?_ (Below.mono hB0 ?_)) | (with_reducible exact hB0.size) | omega | (simp <;> omega) | (simp <;> (have s := hB0.size; omega)) | (have s0 := hB0.size; (try simp at s0); (try simp); omega))))) (lies_ones L)
        hpos (by unfold maxLen; omega) (by omega) (by simp; omega) (w.heap.size + 3) (by simp; omega) ?_; intro gg cap1 w1 hown1 hgrow hat hlt; obtain ⟨d0, d1, d2, d3, df, dl⟩ := RR1.out.grown hgrow (by simp [Value.ownBlock])))
  obtain ⟨LB, hgb⟩ := owned_LBox rfl (by simpa using hown1)
  have hbw : Below w.heap.size w w1 := (show Below w.heap.size w (W0.alloc (.cells #[] 73)).drew by repeat (first | (with_reducible exact Below.refl _ _) | (with_reducible refine Below.setCell ?_ ?_ _) | (with_reducible refine Below.drew ?_) | (with_reducible refine Below.alloc ?_ ?_ _) | (with_reducible refine Below.trans ?_ (Below.mono hB0 ?_)) | (with_reducible exact hB0.size) | omega | (simp <;> omega) | (simp <;> (have s := hB0.size; omega)) | (have s0 := hB0.size; (try simp at s0); (try simp); omega))).grown hgrow (by simp; omega) (fun j hj => by simp [Value.ownBlock] at hj; omega)
  clear hown1 hgrow own0 RR1 RR H hB0 f0 f1 f2 f3
  go_wp2
  have G1 := grown_setCells (w.heap.size + 1) [.int .i64 a, .int .i64 b, .int .i64 c, .slice (some ⟨gg, 0, none⟩) L.length cap1] 0 w1
  refine bodyPost_ret (v := .agg #[.int .i64 a, .int .i64 b, .int .i64 c, .slice (some ⟨gg, 0, none⟩) L.length cap1]) ?_ rfl ⟨gg, cap1, rfl, ?_, by omega, ?_⟩
  · simp [results, Tryz.results17, go_sem, d0, d1, d2, d3]
  · exact LB.grown G1 (by simp; omega)
  · repeat (first | (with_reducible exact Below.refl _ _) | (with_reducible refine Below.setCell ?_ ?_ _) | (with_reducible refine Below.drew ?_) | (with_reducible refine Below.alloc ?_ ?_ _) | (with_reducible refine Below.trans ?_ (Below.mono hbw ?_)) | (with_reducible exact hbw.size) | omega | (simp <;> omega) | (simp <;> (have s := hbw.size; omega)) | (have s0 := hbw.size; (try simp at s0); (try simp); omega))
end Go.Proofs.YtpfhjdmgkckjfaaGreatDoor

namespace Go.Proofs.YtpfhjdmgkckjfaaGreatDoor
set_option linter.unusedVariables false
set_option linter.unusedSimpArgs false
set_option maxRecDepth 1000000
open Go.RowKit
open Um Tm

set_option maxHeartbeats 3200000 in
theorem refWith_any (a b c l : Int) (u : Q) (bl off cap : Nat) (L : List Q) (w : World) (hl : Lies w bl off L) (hpos : 0 < L.length) (hlen : L.length ≤ 100) (h0 : 0 ≤ l) (h1 : l < (L.length : Int)) : Calls Tryz.prog 52 #[.agg #[.int .i64 a, .int .i64 b, .int .i64 c, .slice (some ⟨bl, off, none⟩) L.length cap], .int .i64 l, .agg #[.int .i64 u.a, .int .i64 u.b, .int .i64 u.c, .int .i64 u.d, .int .i64 u.n]] w fun e w' => (∃ g k : Nat, e = .returned (.agg #[.int .i64 a, .int .i64 b, .int .i64 c, .slice (some ⟨g, 0, none⟩) L.length k]) ∧ LBox w' g (L.set l.toNat u) ∧ w.heap.size ≤ g) ∧ Below w.heap.size w w' := by
  have H := Lib.hid hl
  have cC := fun (W : World) (h : Lies W bl off L) => refCopy4_some a b c bl off cap L W h hpos hlen
  have i2 : l.toNat < L.length := by omega
  obtain ⟨x, hx⟩ : ∃ x, L[l.toNat]? = some x := ⟨_, List.getElem?_eq_getElem i2⟩
  have HX := Lib.hid hx
  clear hl hx hpos
  go_enter Tryz.func52, Tryz.ntmps52
  have F0 : Hid (FW (((w.alloc (.cells #[.int .i64 a, .int .i64 b, .int .i64 c, .slice (some ⟨bl, off, none⟩) L.length cap] 25)).alloc (.cells #[.int .i64 u.a, .int .i64 u.b, .int .i64 u.c, .int .i64 u.d, .int .i64 u.n] 73)).alloc (.cells #[.int .i64 0, .int .i64 0, .int .i64 0, .slice none 0 0] 25)) w.heap.size a b c (.slice (some ⟨bl, off, none⟩) L.length cap)) := Lib.hid FW.n3a
  have R0 : Hid (FW (((w.alloc (.cells #[.int .i64 a, .int .i64 b, .int .i64 c, .slice (some ⟨bl, off, none⟩) L.length cap] 25)).alloc (.cells #[.int .i64 u.a, .int .i64 u.b, .int .i64 u.c, .int .i64 u.d, .int .i64 u.n] 73)).alloc (.cells #[.int .i64 0, .int .i64 0, .int .i64 0, .slice none 0 0] 25)) (w.heap.size + 1 + 1) 0 0 0 (.slice none 0 0)) := Lib.hid FW.n3c
  have U0 : Hid (LBox (((w.alloc (.cells #[.int .i64 a, .int .i64 b, .int .i64 c, .slice (some ⟨bl, off, none⟩) L.length cap] 25)).alloc (.cells #[.int .i64 u.a, .int .i64 u.b, .int .i64 u.c, .int .i64 u.d, .int .i64 u.n] 73)).alloc (.cells #[.int .i64 0, .int .i64 0, .int .i64 0, .slice none 0 0] 25)) (w.heap.size + 1) [u]) := Lib.hid ⟨fun i z hz => by
    match i, hz with
    | 0, hz => simp at hz; subst hz; exact ⟨by simp [go_sem], by simp [go_sem], by simp [go_sem], by simp [go_sem], by simp [go_sem]⟩
    | n + 1, hz => simp at hz, fun j => by simp [go_sem], by simp <;> omega⟩
  go_wp2_with (fail)
  refine (cC _ (H.out.later ba3)).mono ?_
  rintro e w1 ⟨g, k, rfl, LB, hg, hw1⟩
  have O1 : Hid (FW (w1.alloc (.cells #[.int .i64 a, .int .i64 b, .int .i64 c, .slice (some ⟨g, 0, none⟩) L.length k] 25)) w1.heap.size a b c (.slice (some ⟨g, 0, none⟩) L.length k)) := Lib.hid ⟨by simp [go_sem], by simp [go_sem], by simp [go_sem], by simp [go_sem], fun j => by simp [go_sem], by simp⟩
  have R1 := Lib.hid ((R0.out.later hw1).later (ba1 (o := .cells #[.int .i64 a, .int .i64 b, .int .i64 c, .slice (some ⟨g, 0, none⟩) L.length k] 25)))
  have U1 := Lib.hid ((U0.out.later hw1).later (ba1 (o := .cells #[.int .i64 a, .int .i64 b, .int .i64 c, .slice (some ⟨g, 0, none⟩) L.length k] 25)))
  have L1 := Lib.hid (LB.later (ba1 (o := .cells #[.int .i64 a, .int .i64 b, .int .i64 c, .slice (some ⟨g, 0, none⟩) L.length k] 25)))
  have b1 : Below w.heap.size w w1 := ba3.trans (hw1.mono ba3.size)
  have B1 := Lib.hid (b1.trans ((ba1 (o := .cells #[.int .i64 a, .int .i64 b, .int .i64 c, .slice (some ⟨g, 0, none⟩) L.length k] 25)).mono b1.size))
  have HG := Lib.hid (And.intro (show w.heap.size + 1 + 1 < g from Nat.lt_of_lt_of_le R0.out.lt hg) LB.lt)
  clear hw1 F0 R0 U0 LB hg b1 cC
  go_upto_region 2 with (fail)
  generalize w1.alloc (.cells #[.int .i64 a, .int .i64 b, .int .i64 c, .slice (some ⟨g, 0, none⟩) L.length k] 25) = X at *
  generalize w1.heap.size = ob at *
  obtain ⟨o0, o1, o2, o3, of, ol⟩ := O1.out
  obtain ⟨r0, r1, r2, r3, rf, rl⟩ := R1.out
  obtain ⟨⟨u0, u1, u2, u3, u4⟩, uf, ul⟩ := one_boxI U1.out
  obtain ⟨l0, l1, l2, l3, l4⟩ := L1.out.at HX.out
  have lf := L1.out.free
  have ll := L1.out.lt
  obtain ⟨hgr, hgo⟩ := HG.out
  have n1 : ¬ g = w.heap.size + 1 + 1 := by omega
  have n2 : ¬ w.heap.size + 1 + 1 = g := by omega
  have n3 : ¬ g = ob := by omega
  have n4 : ¬ ob = g := by omega
  have hob : w.heap.size + 1 + 1 < ob := by omega
  have G1 := grown_setCells g (uc u) (l.toNat * 5) X
  have L2 := L1.out.put l.toNat i2 u
  have hb4 := B1.out.grown G1 B1.out.size (fun j hj => by cases hj; omega)
  have G2 := grown_setCells (w.heap.size + 1 + 1) [.int .i64 a, .int .i64 b, .int .i64 c, .slice (some ⟨g, 0, none⟩) L.length k] 0 (X.setCells g (l.toNat * 5) (uc u))
  have L3 := Lib.hid (L2.grown G2 (by simp; omega))
  have B3 := Lib.hid (hb4.grown G2 hb4.size (fun j hj => by cases hj; omega))
  clear G1 L2 hb4 G2 O1 R1 U1 L1 B1
  go_wp2
  refine bodyPost_ret (v := .agg #[.int .i64 a, .int .i64 b, .int .i64 c, .slice (some ⟨g, 0, none⟩) L.length k]) ?_ rfl ⟨⟨g, k, rfl, L3.out, by omega⟩, B3.out⟩
  simp [results, Tryz.results52, go_sem, r0, r1, r2, r3, rl, n1, n2]
end Go.Proofs.YtpfhjdmgkckjfaaGreatDoor
