/- Arguments that are sums of loops: what a list of terms is.
Conditions: the statement's own on its arguments. -/
import Derived.Test.YtjidbajcnomceaaLoopY
namespace Go.Proofs.Ytjidbajcnomceaa
set_option linter.unusedVariables false
set_option linter.unusedSimpArgs false
set_option maxRecDepth 1000000
open Go.RowKit
open Um Tm Lm

section
open Go.ChangeShapes Go.WideShapes Go.ChangeAt Go.RowKit Go.Joins Go.Deep
variable {H : Type} {enc : TypeId × Value → H} {w : World} {base : Nat} {spare : Nat → Bool} {held : Bool}
theorem cellsTm : Try.prog.cellsOf 37 = 2 := by kernel_rfl
theorem one_ofTm {fs : Array Field} (_ : Try.prog.underlying 37 = some (.struct fs)) (h : oneCellFields Try.prog fs = true) : oneCellFields Try.prog fs = true := h
theorem trod_terms {fuel : Nat} {cs : List Value} {x : DataW H × List MemPlace} (h : DataW.trod enc Try.prog w base spare held fuel 29 cs = some x) : ∃ (ao : Option Addr) (l : List E) (cap : Nat), cs = [.slice ao l.length cap] ∧ l.length ≤ maxLen ∧ (∀ e ∈ l, e.p.length ≤ maxLen) ∧ Trs w ao l := by
  have hone := one_ofTm (fs := _) Try.underlying37 (by kernel_rfl)
  rcases open_slice_fields Try.underlying29 Try.underlying37 hone cellsTm h with rfl | ⟨a, len, cap, rfl, hl, hm, hc⟩
  · exact ⟨none, [], 0, rfl, by simp, fun e he => by simp at he, .inl rfl, fun e he => by simp at he⟩
  · obtain ⟨L, rfl, hL⟩ := list_of len (fun i (q : E) => w.cell? (a.add (i * 2)) = some (.int .i64 q.c) ∧ w.cell? (a.add (i * 2 + 1)) = some (.slice q.a q.p.length q.k) ∧ q.p.length ≤ maxLen ∧ LiesOI w q.a q.p) (fun i hi => by
      obtain ⟨n0, v0, y0, h0, t0⟩ := hc i hi 0 _ rfl
      obtain ⟨n1, v1, y1, h1, t1⟩ := hc i hi 1 _ rfl
      obtain ⟨z0, e0, _, _⟩ := DataW.trod_int Try.underlying3 t0
      obtain ⟨po, p, pc, e1, hpl, hpm, hp⟩ := trod_ints t1
      simp at e0 e1
      subst e0 e1
      exact ⟨⟨z0, p, po, pc⟩, h0, h1, Nat.le_trans hpl hpm, hp⟩)
    refine ⟨some a, L, cap, rfl, by omega, fun e he => ?_, ?_, fun e he => ?_⟩
    · obtain ⟨i, hi, rfl⟩ := List.getElem_of_mem he
      exact (hL i _ (List.getElem?_eq_getElem hi)).2.2.1
    · by_cases he : L = []
      · exact .inl he
      · have hp : 0 < L.length := by cases L; exact absurd rfl he; simp
        have h0 := (hL 0 L[0] (List.getElem?_eq_getElem hp)).1
        obtain ⟨b, off, spot⟩ := a
        have hs := World.cell?_spot h0
        simp [Addr.add] at hs
        subst hs
        refine .inr ⟨b, off, rfl, fun i x hx j v hv => ?_⟩
        obtain ⟨c0, c1, -, -⟩ := hL i x hx
        have f : ∀ n, Addr.add ⟨b, off, none⟩ n = ⟨b, off + n, none⟩ := fun n => by
          unfold Addr.add
          split
          · rename_i h; subst h; rfl
          · rfl
        rw [f] at c0 c1
        match j, hv with
        | 0, hv => simp [ec] at hv; subst hv; exact c0
        | 1, hv => simp [ec] at hv; subst hv; rw [Nat.add_assoc]; exact c1
        | n + 2, hv => simp [ec] at hv
    · obtain ⟨i, hi, rfl⟩ := List.getElem_of_mem he
      exact (hL i _ (List.getElem?_eq_getElem hi)).2.2.2
theorem open_terms {r : Reach} {b0 : Nat} {v : Value} {d : DataW H} {p : List MemPlace} (hv : Value.okWide Try.prog w r b0 29 v) (h : DataW.Trod enc Try.prog w base spare held 29 v d p) : ∃ (ao : Option Addr) (l : List E) (cap : Nat), v = .slice ao l.length cap ∧ l.length ≤ maxLen ∧ (∀ e ∈ l, e.p.length ≤ maxLen) ∧ Trs w ao l := by
  obtain ⟨fuel, hf⟩ := h
  obtain ⟨ao, L, cap, he, hl, hp, hm⟩ := trod_terms hf
  refine ⟨ao, L, cap, ?_, hl, hp, hm⟩
  obtain ⟨a, n, c, rfl⟩ := okWide_slice Try.underlying29 hv
  simpa [Value.cells] using he
end

/-! ### the laws' bound on sums -/
def few (l : List E) : Prop := l.length ≤ 100 ∧ ∀ e ∈ l, e.p.length ≤ 40
theorem len_63 {n : Nat} (h : n ≤ maxLen) : (n : Int) ≤ 9223372036854775807 := by unfold maxLen at h; omega
set_option maxHeartbeats 1600000 in
theorem many_no (ao : Option Addr) (cap : Nat) (l : List E) (w : World) (h : Trs w ao l) (hf : few l) : Calls Try.prog 15 #[.slice ao l.length cap] w fun e w' => e = .returned (.bool false) ∧ Below w.heap.size w w' := by
  obtain ⟨h1, h2⟩ := hf
  have H := Lib.hid h
  have H2 := Lib.hid h2
  have i0 : ¬ (100 : Int) < (l.length : Int) := by omega
  clear h h2
  go_enter Try.func15, Try.ntmps15
  go_wp2
  go_loopw [3] (fun q wr => ∃ k : Nat, k ≤ l.length ∧ q = .int .i64 k ∧ Below w.heap.size w wr) (fun q _ => l.length - (intOf q).toNat)
  case atStart => exact ⟨0, by omega, rfl, Below.refl _ _⟩
  case round =>
    obtain ⟨k, hk, rfl, hb⟩ := hrel
    by_cases hlt : k < l.length
    · have i1 : (k : Int) < (l.length : Int) := by omega
      obtain ⟨b, off, rfl, x0, x1, -⟩ := (H.out.later hb).at_ hlt
      have hp := H2.out _ (List.getElem_mem hlt)
      have i2 : ¬ (40 : Int) < ((l[k]'hlt).p.length : Int) := by omega
      generalize l[k] = x at *
      obtain ⟨c, p, pa, pk⟩ := x
      simp only at *
      go_wp2
      first | exact ⟨⟨k + 1, by omega, by go_num, hb⟩, by simp [intOf]; omega⟩ | (go_roundw; case rel => exact ⟨k + 1, by omega, by go_num, hb⟩; case measure => simp [intOf]; omega)
    · obtain rfl : l.length = k := by omega
      go_wp2
      go_ret
      exact ⟨rfl, hb⟩
set_option maxHeartbeats 1600000 in
theorem many_yes (ao : Option Addr) (cap : Nat) (l : List E) (w : World) (h : Trs w ao l) (hf : ¬ few l) (hl : l.length ≤ maxLen) (hp : ∀ e ∈ l, e.p.length ≤ maxLen) : Calls Try.prog 15 #[.slice ao l.length cap] w fun e w' => e = .returned (.bool true) ∧ Below w.heap.size w w' := by
  by_cases h100 : 100 < l.length
  · have i0 : (100 : Int) < (l.length : Int) := by omega
    go_enter Try.func15, Try.ntmps15
    go_wp2
    go_ret
    exact ⟨rfl, Below.refl _ _⟩
  · have hex : ∃ e ∈ l, 40 < e.p.length := Classical.byContradiction fun hne => hf ⟨by omega, fun e he => Classical.byContradiction fun h40 => hne ⟨e, he, by omega⟩⟩
    have HX := Lib.hid hex
    have H := Lib.hid h
    have HP := Lib.hid hp
    have i0 : ¬ (100 : Int) < (l.length : Int) := by omega
    clear h hf hex hp
    go_enter Try.func15, Try.ntmps15
    go_wp2
    go_loopw [3] (fun q wr => ∃ k : Nat, k ≤ l.length ∧ q = .int .i64 k ∧ Hid (∀ (j : Nat) (hj : j < l.length), j < k → l[j].p.length ≤ 40) ∧ Below w.heap.size w wr) (fun q _ => l.length - (intOf q).toNat)
    case atStart => exact ⟨0, by omega, rfl, Lib.hid (fun j _ h => by omega), Below.refl _ _⟩
    case round =>
      obtain ⟨k, hk, rfl, ha, hb⟩ := hrel
      by_cases hlt : k < l.length
      · have i1 : (k : Int) < (l.length : Int) := by omega
        obtain ⟨b, off, rfl, x0, x1, -⟩ := (H.out.later hb).at_ hlt
        have hpm := len_63 (HP.out _ (List.getElem_mem hlt))
        by_cases h40 : 40 < (l[k]'hlt).p.length
        · have i2 : (40 : Int) < ((l[k]'hlt).p.length : Int) := by omega
          generalize l[k] = x at *
          obtain ⟨c, p, pa, pk⟩ := x
          simp only at *
          go_wp2
          go_ret
          exact ⟨rfl, hb⟩
        · have i2 : ¬ (40 : Int) < ((l[k]'hlt).p.length : Int) := by omega
          have hn : Hid (∀ (j : Nat) (hj : j < l.length), j < k + 1 → l[j].p.length ≤ 40) := Lib.hid (fun j hj h => by
            by_cases he : j < k
            · exact ha.out j hj he
            · obtain rfl : j = k := by omega
              omega)
          generalize l[k] = x at *
          obtain ⟨c, p, pa, pk⟩ := x
          simp only at *
          go_wp2
          first | exact ⟨⟨k + 1, by omega, by go_num, hn, hb⟩, by simp [intOf]; omega⟩ | (go_roundw; case rel => exact ⟨k + 1, by omega, by go_num, hn, hb⟩; case measure => simp [intOf]; omega)
      · obtain ⟨e, he, h40⟩ := HX.out
        obtain ⟨j, hj, rfl⟩ := List.getElem_of_mem he
        have := ha.out j hj (by omega)
        omega
end Go.Proofs.Ytjidbajcnomceaa
