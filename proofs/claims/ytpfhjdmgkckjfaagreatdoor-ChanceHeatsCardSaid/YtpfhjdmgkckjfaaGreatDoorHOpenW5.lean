/- A link of a field, as the program and the document's answers read it.
Conditions: the list lies in memory as it is written at each theorem. -/
import Derived.Test.YtpfhjdmgkckjfaaGreatDoorHCold
import Derived.Test.YtpfhjdmgkckjfaaGreatDoorHMathA
import Derived.Deep.RegionHeld3
import Derived.Deep.AppendLies
import Derived.Deep.RegionLawGrows
import Derived.Deep.RegionLaw
import Derived.Laws.AppendOwnNone
import Derived.Test.YtpfhjdmgkckjfaaGreatDoorHWlkA
import Derived.Test.YtpfhjdmgkckjfaaGreatDoorHOpen4
namespace Go.Proofs.YtpfhjdmgkckjfaaGreatDoor
set_option linter.unusedVariables false
set_option linter.unusedSimpArgs false
set_option maxRecDepth 1000000
open Go.RowKit
open Um Tm

/-- the error of a field, a site and a direction -/
def lnR (a b c : Int) (L : List Q) (s d r : Int) : Prop := (fldR a b c L r ∧ r ≠ 0) ∨ (fldR a b c L 0 ∧ ¬ (0 ≤ s ∧ s < a * b * c) ∧ r = 4) ∨ (fldR a b c L 0 ∧ 0 ≤ s ∧ s < a * b * c ∧ ¬ (0 ≤ d ∧ d ≤ 2) ∧ r = 1) ∨ (fldR a b c L 0 ∧ 0 ≤ s ∧ s < a * b * c ∧ 0 ≤ d ∧ d ≤ 2 ∧ r = 0)
theorem Fl_fldR {a b c : Int} {L : List Q} (h : Fl a b c L) : fldR a b c L 0 :=
  .inr (.inr ⟨h.z, h.n, .inl ⟨fun i x hx => .inr (.inr ⟨(h.v i x hx).1, (h.v i x hx).2, rfl⟩), rfl⟩⟩)

end Go.Proofs.YtpfhjdmgkckjfaaGreatDoor

namespace Go.Proofs.YtpfhjdmgkckjfaaGreatDoor
set_option linter.unusedVariables false
set_option linter.unusedSimpArgs false
set_option maxRecDepth 1000000
open Go.RowKit
open Um Tm

theorem lies_news {w : World} {b off : Nat} {L : List Q} (h : Lies w b off L) : ∀ j u, (L.flatMap uc)[j]? = some u → w.cell? (Addr.add ⟨b, off, none⟩ j) = some u := fun j u hj => by
  have hlt : j < L.length * 5 := by
    have := (List.getElem?_eq_some_iff.1 hj).1
    rwa [flat_len uc 5 uc_len] at this
  have hi : j / 5 < L.length := by omega
  have hx : L[j / 5]? = some L[j / 5] := List.getElem?_eq_getElem hi
  have hr : j % 5 < 5 := Nat.mod_lt _ (by decide)
  have e := flat_get uc 5 uc_len L (j / 5) _ hx (j % 5) hr
  rw [show j / 5 * 5 + j % 5 = j by omega, hj] at e
  obtain ⟨h0, h1, h2, h3, h4⟩ := h _ _ hx
  have ea : Addr.add ⟨b, off, none⟩ j = ⟨b, off + j, none⟩ := by
    unfold Addr.add
    split
    · rename_i h; subst h; rfl
    · rfl
  rw [ea, show off + j = off + j / 5 * 5 + j % 5 by omega]
  generalize j % 5 = r at *
  have : r = 0 ∨ r = 1 ∨ r = 2 ∨ r = 3 ∨ r = 4 := by omega
  rcases this with rfl | rfl | rfl | rfl | rfl
  · rw [Nat.add_zero, h0]; simpa [uc] using e.symm
  · rw [h1]; simpa [uc] using e.symm
  · rw [h2]; simpa [uc] using e.symm
  · rw [h3]; simpa [uc] using e.symm
  · rw [h4]; simpa [uc] using e.symm
theorem lies_ones (L : List Q) : ∀ u ∈ L.flatMap uc, u.oneCell' = true := fun u hu => by
  obtain ⟨x, _, hx⟩ := List.mem_flatMap.1 hu
  exact five_one (a := x.a) (b := x.b) (c := x.c) (d := x.d) (e := x.n) rfl u hx

theorem owned_LBox {w : World} {base : Nat} {T : TypeId} {g n cap : Nat} {L : List Q} (hn : n = L.length) (h : w.ownsRow base T 5 (.slice (some ⟨g, 0, none⟩) n cap) n (L.flatMap uc)) : LBox w g L ∧ base ≤ g := by
  subst hn
  refine ⟨⟨owned_lies h, fun j => ?_, ?_⟩, ?_⟩
  all_goals
    rcases h.2 with ⟨h', _⟩ | ⟨g', cap', cur, h', hb, hg, _⟩
    · simp at h'
    · simp only [Value.slice.injEq, Option.some.injEq, Addr.mk.injEq, and_true, true_and] at h'
      obtain ⟨rfl, -⟩ := h'
      first
        | exact hb
        | exact (Array.getElem?_eq_some_iff.1 hg).1
        | simp [World.frozen?, hg]

theorem step_append_none {P : Program} {ops : Array Oper} {o : Oper} {a : Act} {w : World} {K : Act → World → Prop} {Q : Exit → Act → World → Prop} {E : Prop} (hgd : o.guard = none) (s x : Operand) (t : TypeId)
    (ho : o.op = .call { callee := .builtin .append, args := #[s, x], argTypes := #[t, t] })
    (base : Nat) (e : TypeId) (i : TypeInfo) (size : Nat) (ht : P.underlying t = some (.slice e)) (hi : P.info? e = some i)
    (v : Value) (n : Nat) (xs : List Value) (hs : a.eval s = v) (hown : w.ownsRow base e size v n xs) (hx : a.eval x = .slice none 0 0)
    (h : K (a.put o.dst v) w) : if Region.wanted o (yielded ops a.tmps) = true then Oper.wp P o a w K Q else E := by
  have hw : Region.wanted o (yielded ops a.tmps) = true := by simp [Region.wanted, hgd]
  rw [if_pos hw]
  have hrun := run_append_owned_none (P := P) (w := w) base t o.type e i size ht hi v n xs hown
  unfold Oper.wp
  simp [execOp, ho, resolve, invoke, builtin, hs, hx, hrun, Result.andThen]
  exact h

theorem step_append_zero {P : Program} {ops : Array Oper} {o : Oper} {a : Act} {w : World} {K : Act → World → Prop} {Q : Exit → Act → World → Prop} {E : Prop} (hgd : o.guard = none) (s x : Operand) (t : TypeId)
    (ho : o.op = .call { callee := .builtin .append, args := #[s, x], argTypes := #[t, t] })
    (e : TypeId) (i : TypeInfo) (size : Nat) (ht : P.underlying t = some (.slice e)) (hi : P.info? e = some i) (hz : i.size = size) (b off n cap : Nat) (hs : a.eval s = .slice (some ⟨b, off, none⟩) n cap) (hn : n ≤ cap)
    (ad : Addr) (c : Nat) (hx : a.eval x = .slice (some ad) 0 c)
    (h : K (a.put o.dst (.slice (some ⟨b, off, none⟩) n cap)) w) : if Region.wanted o (yielded ops a.tmps) = true then Oper.wp P o a w K Q else E :=
  step_append_room hgd s x t ho e i size ht hi hz b off n cap hs ad 0 c [] hx (by simp) (fun j u h => by simp at h) (fun u h => by simp at h) (by omega) (fun j h => by simp at h) (by simpa [World.setCells] using h)

end Go.Proofs.YtpfhjdmgkckjfaaGreatDoor

namespace Go.Proofs.YtpfhjdmgkckjfaaGreatDoor
set_option linter.unusedVariables false
set_option linter.unusedSimpArgs false
set_option maxRecDepth 1000000
open Go.RowKit

theorem belDG {w w1 : World} (h : Below w.drew.heap.size w.drew w1) : Below w.heap.size w w1 := ⟨h.os, h.tape, h.output, h.size, h.block⟩
theorem held_belowG {W W1 : World} {b i : Nat} {v : Value} (h : Below W.heap.size W W1) (hc : W.cell? ⟨b, i, none⟩ = some v) : W1.cell? ⟨b, i, none⟩ = some v := (h.cell (World.block_lt_of_cell? W _ hc)).trans hc
open Um
theorem one_boxI {w : World} {b : Nat} {x : Q} (h : LBox w b [x]) : (w.cell? ⟨b, 0, none⟩ = some (.int .i64 x.a) ∧ w.cell? ⟨b, 1, none⟩ = some (.int .i64 x.b) ∧ w.cell? ⟨b, 2, none⟩ = some (.int .i64 x.c) ∧ w.cell? ⟨b, 3, none⟩ = some (.int .i64 x.d) ∧ w.cell? ⟨b, 4, none⟩ = some (.int .i64 x.n)) ∧ (∀ j, w.frozen? ⟨b, j, none⟩ = false) ∧ b < w.heap.size := ⟨by simpa using h.h 0 x rfl, h.free, h.lt⟩
end Go.Proofs.YtpfhjdmgkckjfaaGreatDoor

namespace Go.Proofs.YtpfhjdmgkckjfaaGreatDoor
set_option linter.unusedVariables false
set_option linter.unusedSimpArgs false
set_option maxRecDepth 1000000
section
open Go.ChangeShapes Go.WideShapes Go.ChangeAt Go.RowKit Go.Joins Go.Deep
variable {H : Type} {enc : TypeId × Value → H} {w : World} {base : Nat} {spare : Nat → Bool} {held : Bool}
theorem cellsW5 : Tryz.prog.cellsOf 26 = 5 := by kernel_rfl
theorem open_w5 {r : Reach} {b0 : Nat} {v : Value} {d : DataW H} {p : List MemPlace} (hv : Value.okWide Tryz.prog w r b0 26 v) (h : DataW.Trod enc Tryz.prog w base spare held 26 v d p) : ∃ (x y z t s : Int), v = .agg #[.int .i64 x, .int .i64 y, .int .i64 z, .int .i64 t, .int .i64 s] := by
  have hagg : ∃ cs, v = .agg cs ∧ cs.size = Tryz.prog.cellsOf 26 := by
    simp only [Value.okWide, Tryz.underlying26] at hv
    obtain ⟨cs, h1, h2, _⟩ := hv
    exact ⟨cs, h1, h2⟩
  obtain ⟨cs, rfl, hsz⟩ := hagg
  obtain ⟨l⟩ := cs
  match l, hsz.trans cellsW5 with
  | [c0, c1, c2, c3, c4], _ =>
    obtain ⟨fuel, hf⟩ := h
    obtain ⟨xs, n, _, _, _, hlen, hg⟩ := DataW.trod_array Tryz.underlying26 hf
    match xs, hlen with
    | [y0, y1, y2, y3, y4], _ =>
      obtain ⟨a, e0, _, _⟩ := DataW.trod_int Tryz.underlying3 (show DataW.trod enc Tryz.prog w base spare held n 3 [c0] = some y0 by simpa [Value.cells, cells3] using hg 0 (by omega))
      obtain ⟨b, e1, _, _⟩ := DataW.trod_int Tryz.underlying3 (show DataW.trod enc Tryz.prog w base spare held n 3 [c1] = some y1 by simpa [Value.cells, cells3] using hg 1 (by omega))
      obtain ⟨c, e2, _, _⟩ := DataW.trod_int Tryz.underlying3 (show DataW.trod enc Tryz.prog w base spare held n 3 [c2] = some y2 by simpa [Value.cells, cells3] using hg 2 (by omega))
      obtain ⟨d, e3, _, _⟩ := DataW.trod_int Tryz.underlying3 (show DataW.trod enc Tryz.prog w base spare held n 3 [c3] = some y3 by simpa [Value.cells, cells3] using hg 3 (by omega))
      obtain ⟨f, e4, _, _⟩ := DataW.trod_int Tryz.underlying3 (show DataW.trod enc Tryz.prog w base spare held n 3 [c4] = some y4 by simpa [Value.cells, cells3] using hg 4 (by omega))
      simp at e0 e1 e2 e3 e4
      subst e0 e1 e2 e3 e4
      exact ⟨a, b, c, d, f, rfl⟩
end
end Go.Proofs.YtpfhjdmgkckjfaaGreatDoor
