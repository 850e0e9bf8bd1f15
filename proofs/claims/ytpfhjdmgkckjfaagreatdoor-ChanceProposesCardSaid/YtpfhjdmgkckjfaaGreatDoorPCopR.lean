/- Fields in new memory, as the program and the document's answers make them.
Conditions: those written at each theorem. -/
import Derived.Test.YtpfhjdmgkckjfaaGreatDoorPSortC
import Derived.Deep.RegionHeld3
import Derived.Deep.AppendLies
import Derived.Deep.RegionLawGrows
import Derived.Deep.RegionLaw
import Derived.Laws.AppendOwnNone
namespace Go.Proofs.YtpfhjdmgkckjfaaGreatDoor
set_option linter.unusedVariables false
set_option linter.unusedSimpArgs false
set_option maxRecDepth 1000000
open Go.RowKit
open Um Tm

theorem lies_news {w : World} {b off : Nat} {L : List Q} (h : Lies w b off L) : ∀ j u, (L.flatMap uc)[j]? = some u → w.cell? (Addr.add ⟨b, off, none⟩ j) = some u := fun j u hj => by
  have hlt : j < L.length * 5 := by
    have := (List.getElem?_eq_some_iff.1 hj).1
    rwa [flat_len uc 5 uc_len] at this
  have hi : j / 5 < L.length := by omega
  have hx : L[j / 5]? = some L[j / 5] := List.getElem?_eq_getElem hi
  have hr : j % 5 < 5 := Nat.mod_lt _ (by decide)
  have e := flat_get uc 5 uc_len L (j / 5) _ hx (j % 5) hr
  rw [show j / 5 * 5 + j % 5 = j by omega, hj] at e
  obtain ⟨h0, h1, h2, h3, h4⟩ := h _ _ hx
  have ea : Addr.add ⟨b, off, none⟩ j = ⟨b, off + j, none⟩ := by
    unfold Addr.add
    split
    · rename_i h; subst h; rfl
    · rfl
  rw [ea, show off + j = off + j / 5 * 5 + j % 5 by omega]
  generalize j % 5 = r at *
  have : r = 0 ∨ r = 1 ∨ r = 2 ∨ r = 3 ∨ r = 4 := by omega
  rcases this with rfl | rfl | rfl | rfl | rfl
  · rw [Nat.add_zero, h0]; simpa [uc] using e.symm
  · rw [h1]; simpa [uc] using e.symm
  · rw [h2]; simpa [uc] using e.symm
  · rw [h3]; simpa [uc] using e.symm
  · rw [h4]; simpa [uc] using e.symm
theorem lies_ones (L : List Q) : ∀ u ∈ L.flatMap uc, u.oneCell' = true := fun u hu => by
  obtain ⟨x, _, hx⟩ := List.mem_flatMap.1 hu
  exact five_one (a := x.a) (b := x.b) (c := x.c) (d := x.d) (e := x.n) rfl u hx

theorem owned_LBox {w : World} {base : Nat} {T : TypeId} {g n cap : Nat} {L : List Q} (hn : n = L.length) (h : w.ownsRow base T 5 (.slice (some ⟨g, 0, none⟩) n cap) n (L.flatMap uc)) : LBox w g L ∧ base ≤ g := by
  subst hn
  refine ⟨⟨owned_lies h, fun j => ?_, ?_⟩, ?_⟩
  all_goals
    rcases h.2 with ⟨h', _⟩ | ⟨g', cap', cur, h', hb, hg, _⟩
    · simp at h'
    · simp only [Value.slice.injEq, Option.some.injEq, Addr.mk.injEq, and_true, true_and] at h'
      obtain ⟨rfl, -⟩ := h'
      first
        | exact hb
        | exact (Array.getElem?_eq_some_iff.1 hg).1
        | simp [World.frozen?, hg]

theorem step_append_none {P : Program} {ops : Array Oper} {o : Oper} {a : Act} {w : World} {K : Act → World → Prop} {Q : Exit → Act → World → Prop} {E : Prop} (hgd : o.guard = none) (s x : Operand) (t : TypeId)
    (ho : o.op = .call { callee := .builtin .append, args := #[s, x], argTypes := #[t, t] })
    (base : Nat) (e : TypeId) (i : TypeInfo) (size : Nat) (ht : P.underlying t = some (.slice e)) (hi : P.info? e = some i)
    (v : Value) (n : Nat) (xs : List Value) (hs : a.eval s = v) (hown : w.ownsRow base e size v n xs) (hx : a.eval x = .slice none 0 0)
    (h : K (a.put o.dst v) w) : if Region.wanted o (yielded ops a.tmps) = true then Oper.wp P o a w K Q else E := by
  have hw : Region.wanted o (yielded ops a.tmps) = true := by simp [Region.wanted, hgd]
  rw [if_pos hw]
  have hrun := run_append_owned_none (P := P) (w := w) base t o.type e i size ht hi v n xs hown
  unfold Oper.wp
  simp [execOp, ho, resolve, invoke, builtin, hs, hx, hrun, Result.andThen]
  exact h

theorem step_append_zero {P : Program} {ops : Array Oper} {o : Oper} {a : Act} {w : World} {K : Act → World → Prop} {Q : Exit → Act → World → Prop} {E : Prop} (hgd : o.guard = none) (s x : Operand) (t : TypeId)
    (ho : o.op = .call { callee := .builtin .append, args := #[s, x], argTypes := #[t, t] })
    (e : TypeId) (i : TypeInfo) (size : Nat) (ht : P.underlying t = some (.slice e)) (hi : P.info? e = some i) (hz : i.size = size) (b off n cap : Nat) (hs : a.eval s = .slice (some ⟨b, off, none⟩) n cap) (hn : n ≤ cap)
    (ad : Addr) (c : Nat) (hx : a.eval x = .slice (some ad) 0 c)
    (h : K (a.put o.dst (.slice (some ⟨b, off, none⟩) n cap)) w) : if Region.wanted o (yielded ops a.tmps) = true then Oper.wp P o a w K Q else E :=
  step_append_room hgd s x t ho e i size ht hi hz b off n cap hs ad 0 c [] hx (by simp) (fun j u h => by simp at h) (fun u h => by simp at h) (by omega) (fun j h => by simp at h) (by simpa [World.setCells] using h)

end Go.Proofs.YtpfhjdmgkckjfaaGreatDoor

namespace Go.Proofs.YtpfhjdmgkckjfaaGreatDoor
set_option linter.unusedVariables false
set_option linter.unusedSimpArgs false
set_option maxRecDepth 1000000
open Go.RowKit
open Um Tm

set_option maxHeartbeats 3200000 in
theorem refCopy4_some (a b c : Int) (bl off cap : Nat) (L : List Q) (w : World) (hl : Lies w bl off L) (hpos : 0 < L.length) (hlen : L.length ≤ 100) : Calls Tryz.prog 17 #[.agg #[.int .i64 a, .int .i64 b, .int .i64 c, .slice (some ⟨bl, off, none⟩) L.length cap]] w fun e w' => ∃ g k : Nat, e = .returned (.agg #[.int .i64 a, .int .i64 b, .int .i64 c, .slice (some ⟨g, 0, none⟩) L.length k]) ∧ LBox w' g L ∧ w.heap.size ≤ g ∧ Below w.heap.size w w' := by
  obtain ⟨i0, hi, hz0, hz1, hz2⟩ := info_parts infoU
  have H := Lib.hid hl
  clear hl
  go_enter Tryz.func17, Tryz.ntmps17
  go_wp2
  obtain ⟨W0, hW0⟩ : ∃ W0, (w.alloc (.cells #[.int .i64 a, .int .i64 b, .int .i64 c, .slice (some ⟨bl, off, none⟩) L.length cap] 25)).alloc (.cells #[.int .i64 0, .int .i64 0, .int .i64 0, .slice none 0 0] 25) = W0 := ⟨_, rfl⟩
  have F0 : FW W0 w.heap.size a b c (.slice (some ⟨bl, off, none⟩) L.length cap) := by rw [← hW0]; exact ⟨by simp [go_sem], by simp [go_sem], by simp [go_sem], by simp [go_sem], fun j => by simp [go_sem], by simp <;> omega⟩
  have R0 : FW W0 (w.heap.size + 1) 0 0 0 (.slice none 0 0) := by rw [← hW0]; exact ⟨by simp [go_sem], by simp [go_sem], by simp [go_sem], by simp [go_sem], fun j => by simp [go_sem], by simp⟩
  have hB0 : Below w.heap.size w W0 := by rw [← hW0]; repeat (first | (with_reducible exact Below.refl _ _) | (with_reducible refine Below.setCell ?_ ?_ _) | (with_reducible refine Below.drew ?_) | (with_reducible refine Below.alloc ?_ ?_ _) | omega | (simp <;> omega))
  have hs0 : W0.heap.size = w.heap.size + 2 := by rw [← hW0]; simp
  rw [hW0]
  clear hW0
  obtain ⟨f0, f1, f2, f3, ff, fl⟩ := F0
  have RR := Lib.hid R0
  clear R0
  have own0 : (W0.alloc (.cells #[] 73)).ownsRow (w.heap.size + 2) 73 5 (.slice (some ⟨w.heap.size + 2, 0, none⟩) 0 0) 0 [] := by
    have := World.ownsRow_lit (base := W0.heap.size) (e := 73) (size := 5) W0 #[] 0 (Nat.le_refl _) (by unfold maxLen; omega) (by simp)
    rwa [hs0] at this
  have R1 : FW (W0.alloc (.cells #[] 73)).drew (w.heap.size + 1) 0 0 0 (.slice none 0 0) := RR.out.later (by repeat (first | (with_reducible exact Below.refl _ _) | (with_reducible refine Below.setCell ?_ ?_ _) | (with_reducible refine Below.drew ?_) | (with_reducible refine Below.alloc ?_ ?_ _) | omega | (simp <;> omega)))
  have RR1 := Lib.hid R1
  clear R1
  go_region_held3 (fun w' => w'.cell? ⟨w.heap.size, 0, none⟩ = some (.int .i64 a) ∧ w'.cell? ⟨w.heap.size, 1, none⟩ = some (.int .i64 b) ∧ w'.cell? ⟨w.heap.size, 2, none⟩ = some (.int .i64 c) ∧ w'.cell? ⟨w.heap.size, 3, none⟩ = some (.slice (some ⟨bl, off, none⟩) L.length cap))
    (first
      | go_keep
      | (go_split_ands
         refine ⟨?_, ?_, ?_, ?_⟩
         · (rw [hgrow.cell_far _ (by simp <;> omega) (by simp [Value.ownBlock] <;> omega)]; assumption)
         · (rw [hgrow.cell_far _ (by simp <;> omega) (by simp [Value.ownBlock] <;> omega)]; assumption)
         · (rw [hgrow.cell_far _ (by simp <;> omega) (by simp [Value.ownBlock] <;> omega)]; assumption)
         · (rw [hgrow.cell_far _ (by simp <;> omega) (by simp [Value.ownBlock] <;> omega)]; assumption)))
    ((refine step_append_lies _ (by rfl) _ _ _ (by rfl) (w.heap.size + 2) 73 i0 _ 5 40 Tryz.underlying23 hi hz0 hz1 hz2 rfl (by omega) (.slice (some ⟨w.heap.size + 2, 0, none⟩) 0 0) 0 [] (by rfl) own0.drew
        ⟨bl, off, none⟩ L.length cap (L.flatMap uc) (by rfl) (flat_len uc 5 uc_len L) (lies_news (H.out.later (by repeat (first | (with_reducible exact Below.refl _ _) | (with_reducible refine Below.setCell ?_ ?_ _) | (with_reducible refine Below.drew ?_) | (with_reducible refine Below.alloc ?_ ?_ _) | (with_reducible refine Below.trans ?_ (Below.mono hB0 ?_)) | (with_reducible exact hB0.size) | omega | (simp <;> omega) | (simp <;> (have s := hB0.size; omega)) | (have s0 := hB0.size; (try simp at s0); (try simp); omega))))) (lies_ones L)
        hpos (by unfold maxLen; omega) (by omega) (by simp; omega) (w.heap.size + 3) (by simp; omega) ?_; intro gg cap1 w1 hown1 hgrow hat hlt; obtain ⟨d0, d1, d2, d3, df, dl⟩ := RR1.out.grown hgrow (by simp [Value.ownBlock])))
  obtain ⟨LB, hgb⟩ := owned_LBox rfl (by simpa using hown1)
  have hbw : Below w.heap.size w w1 := (show Below w.heap.size w (W0.alloc (.cells #[] 73)).drew by repeat (first | (with_reducible exact Below.refl _ _) | (with_reducible refine Below.setCell ?_ ?_ _) | (with_reducible refine Below.drew ?_) | (with_reducible refine Below.alloc ?_ ?_ _) | (with_reducible refine Below.trans ?_ (Below.mono hB0 ?_)) | (with_reducible exact hB0.size) | omega | (simp <;> omega) | (simp <;> (have s := hB0.size; omega)) | (have s0 := hB0.size; (try simp at s0); (try simp); omega))).grown hgrow (by simp; omega) (fun j hj => by simp [Value.ownBlock] at hj; omega)
  clear hown1 hgrow own0 RR1 RR H hB0 f0 f1 f2 f3
  go_wp2
  have G1 := grown_setCells (w.heap.size + 1) [.int .i64 a, .int .i64 b, .int .i64 c, .slice (some ⟨gg, 0, none⟩) L.length cap1] 0 w1
  refine bodyPost_ret (v := .agg #[.int .i64 a, .int .i64 b, .int .i64 c, .slice (some ⟨gg, 0, none⟩) L.length cap1]) ?_ rfl ⟨gg, cap1, rfl, ?_, by omega, ?_⟩
  · simp [results, Tryz.results17, go_sem, d0, d1, d2, d3]
  · exact LB.grown G1 (by simp; omega)
  · repeat (first | (with_reducible exact Below.refl _ _) | (with_reducible refine Below.setCell ?_ ?_ _) | (with_reducible refine Below.drew ?_) | (with_reducible refine Below.alloc ?_ ?_ _) | (with_reducible refine Below.trans ?_ (Below.mono hbw ?_)) | (with_reducible exact hbw.size) | omega | (simp <;> omega) | (simp <;> (have s := hbw.size; omega)) | (have s0 := hbw.size; (try simp at s0); (try simp); omega))
end Go.Proofs.YtpfhjdmgkckjfaaGreatDoor
