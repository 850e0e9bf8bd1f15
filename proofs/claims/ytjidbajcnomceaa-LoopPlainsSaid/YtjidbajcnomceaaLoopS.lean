/- Multiples of sums of loops, as the document makes them.
Conditions: those written at each theorem. -/
import Derived.Test.YtjidbajcnomceaaLoopF
import Derived.Test.YtjidbajcnomceaaRegB
import Derived.Test.YtjidbajcnomceaaRegA
namespace Go.Proofs.Ytjidbajcnomceaa
set_option linter.unusedVariables false
set_option linter.unusedSimpArgs false
set_option maxRecDepth 1000000
open Go.RowKit Go.Sort
open Um Tm Lm

def sc (k : Int) (l : List E) : List E := l.map fun e => { e with c := k * e.c }
theorem sc_len (k : Int) (l : List E) : (sc k l).length = l.length := by simp [sc]
theorem sc_take (k : Int) (l : List E) (i : Nat) (h : i < l.length) : sc k (l.take (i + 1)) = sc k (l.take i) ++ [{ l[i] with c := k * l[i].c }] := by
  unfold sc
  rw [List.take_succ_eq_append_getElem h, List.map_append]
  rfl
theorem tm_sc (k : Int) (l : List E) : tm (sc k l) = (tm l).map fun t => (t.1 * k, t.2) := by
  simp [tm, sc, Function.comp_def, Int.mul_comm]
theorem rows_single {w : World} {g : Nat} {x : E} {v1 : Value} (hv : v1 = .slice x.a x.p.length x.k) (h0 : w.cell? ⟨g, 0, none⟩ = some (.int .i64 x.c)) (h1 : w.cell? ⟨g, 1, none⟩ = some v1) : RowsAt 2 ec w g 0 [x] := fun i y hy j v hv' => by
  subst hv
  match i, hy with
  | 0, hy =>
    simp only [List.getElem?_cons_zero, Option.some.injEq] at hy
    subst hy
    match j, hv' with
    | 0, hv => simp [ec] at hv; subst hv; exact h0
    | 1, hv => simp [ec] at hv; subst hv; exact h1
    | n + 2, hv => simp [ec] at hv
  | n + 1, hy => simp at hy
/-- one term in a block of its own -/
theorem rows_one (W : World) (x : E) : RowsO 2 ec (W.alloc (.cells #[.int .i64 x.c, .slice x.a x.p.length x.k] 37)) (some ⟨W.heap.size, 0, none⟩) [x] := .inr ⟨W.heap.size, 0, rfl, fun i y hy j v hv => by
  match i, hy with
  | 0, hy =>
    simp only [List.getElem?_cons_zero, Option.some.injEq] at hy
    subst hy
    match j, hv with
    | 0, hv => simp [ec] at hv; subst hv; simp [go_sem]
    | 1, hv => simp [ec] at hv; subst hv; simp [go_sem]
    | n + 2, hv => simp [ec] at hv
  | n + 1, hy => simp at hy⟩
set_option maxHeartbeats 1600000 in
theorem refScale_bad (ao : Option Addr) (cap : Nat) (l : List E) (k : Int) (w : World) (h : Trs w ao l) (h0 : vT (tm l) ≠ 0) (hl : l.length ≤ 1000000) (hp : ∀ e ∈ l, e.p.length ≤ 1000000) :
    Calls Try.prog 25 #[.slice ao l.length cap, .int .i64 k] w fun e w' => e = .returned (.tuple #[.slice none 0 0, .int .i64 (vT (tm l))]) ∧ Below w.heap.size w w' := by
  have H := Lib.hid h
  have cV := fun W h => refVT_any ao cap l W h hl hp
  generalize vT (tm l) = r at *
  have q1 : (r != 0) = true := by simpa using h0
  clear h h0 hp
  go_enter Try.func25, Try.ntmps25
  go_wp2_with (fail)
  refine (cV _ (H.out.later (by repeat (first | (with_reducible exact Below.refl _ _) | (with_reducible refine Below.setCell ?_ ?_ _) | (with_reducible refine Below.drew ?_) | (with_reducible refine Below.alloc ?_ ?_ _) | omega | (simp <;> omega))))).mono ?_
  rintro e w1 ⟨rfl, hw1⟩
  go_wp2
  go_ret2
  exact ⟨rfl, by repeat (first | (with_reducible exact Below.refl _ _) | (with_reducible refine Below.setCell ?_ ?_ _) | (with_reducible refine Below.drew ?_) | (with_reducible refine Below.alloc ?_ ?_ _) | (with_reducible refine Below.trans ?_ (Below.mono hw1 ?_)) | (with_reducible exact hw1.size) | omega | (simp <;> omega) | (simp <;> (have s := hw1.size; omega)) | (have s0 := hw1.size; (try simp at s0); (try simp); omega))⟩
set_option maxHeartbeats 1600000 in
theorem refScale_arg (ao : Option Addr) (cap : Nat) (l : List E) (k : Int) (w : World) (h : Trs w ao l) (hv : vT (tm l) = 0) (hk : ¬ okC k) :
    Calls Try.prog 25 #[.slice ao l.length cap, .int .i64 k] w fun e w' => e = .returned (.tuple #[.slice none 0 0, .int .i64 1]) ∧ Below w.heap.size w w' := by
  obtain ⟨hl, hs⟩ := vT_small hv
  have H := Lib.hid h
  have cV := fun W h => refVT_any ao cap l W h (by omega) (fun e he => by have := (hs e he).1; omega)
  rw [hv] at cV
  have cC := fun W => within3_any k (-1000) 1000 W false (.inr ⟨hk, rfl⟩)
  clear h hs hv hk
  go_enter Try.func25, Try.ntmps25
  go_wp2_with (fail)
  refine (cV _ (H.out.later (by repeat (first | (with_reducible exact Below.refl _ _) | (with_reducible refine Below.setCell ?_ ?_ _) | (with_reducible refine Below.drew ?_) | (with_reducible refine Below.alloc ?_ ?_ _) | omega | (simp <;> omega))))).mono ?_
  rintro e w1 ⟨rfl, hw1⟩
  go_wp2_with (fail)
  refine (cC _).mono ?_
  rintro e w2 ⟨rfl, rfl⟩
  go_wp2
  go_ret2
  exact ⟨rfl, by repeat (first | (with_reducible exact Below.refl _ _) | (with_reducible refine Below.setCell ?_ ?_ _) | (with_reducible refine Below.drew ?_) | (with_reducible refine Below.alloc ?_ ?_ _) | (with_reducible refine Below.trans ?_ (Below.mono hw1 ?_)) | (with_reducible exact hw1.size) | omega | (simp <;> omega) | (simp <;> (have s := hw1.size; omega)) | (have s0 := hw1.size; (try simp at s0); (try simp); omega))⟩
set_option maxHeartbeats 3200000 in
theorem refScale_ok (ao : Option Addr) (cap : Nat) (l : List E) (k : Int) (w : World) (h : Trs w ao l) (hv : vT (tm l) = 0) (hk : okC k) :
    Calls Try.prog 25 #[.slice ao l.length cap, .int .i64 k] w fun e w' => RetD (plo ((tm l).map fun t => (t.1 * k, t.2))) e w' ∧ Below w.heap.size w w' := by
  obtain ⟨hl, hs⟩ := vT_small hv
  obtain ⟨hl2, hs2⟩ := vT_small2 hv
  have H := Lib.hid h
  have cV := fun W h => refVT_any ao cap l W h (by omega) (fun e he => by have := (hs e he).1; omega)
  rw [hv] at cV
  have cC := fun W => within3_any k (-1000) 1000 W true (.inl ⟨hk.1, hk.2, rfl⟩)
  obtain ⟨k1, k2⟩ := hk
  rw [← tm_sc]
  have hss : ∀ e ∈ sc k l, e.p.length ≤ 1000 ∧ ∀ s ∈ e.p, IsStep s := fun e he => by
    obtain ⟨x, hx, rfl⟩ := List.mem_map.1 he
    exact hs x hx
  have HSS := Lib.hid hss
  have HS2 := Lib.hid hs2
  clear h hs hv hs2 hss
  have kc := @Tail.cell_re
  have kc1 : ∀ (W : World) (o : Obj) (d : Nat) (os : Array Obj) (a : Addr), a.block ≤ W.heap.size → (Sort.grow (redrawn (W.alloc o) d) os).cell? a = (W.alloc o).cell? a := fun W o d os a h => Tail.cell_re (W.alloc o) d os a (Nat.lt_of_le_of_lt h (by simp))
  go_enter Try.func25, Try.ntmps25
  go_wp2_with (fail)
  refine (cV _ (H.out.later (by repeat (first | (with_reducible exact Below.refl _ _) | (with_reducible refine Below.setCell ?_ ?_ _) | (with_reducible refine Below.drew ?_) | (with_reducible refine Below.alloc ?_ ?_ _) | omega | (simp <;> omega))))).mono ?_
  rintro e w1 ⟨rfl, hw1⟩
  have hb1 : Below w.heap.size w w1 := by repeat (first | (with_reducible exact Below.refl _ _) | (with_reducible refine Below.setCell ?_ ?_ _) | (with_reducible refine Below.drew ?_) | (with_reducible refine Below.alloc ?_ ?_ _) | (with_reducible refine Below.trans ?_ (Below.mono hw1 ?_)) | (with_reducible exact hw1.size) | omega | (simp <;> omega) | (simp <;> (have s := hw1.size; omega)) | (have s0 := hw1.size; (try simp at s0); (try simp); omega))
  clear cV hw1
  go_wp2_with (fail)
  refine (cC _).mono ?_
  rintro e w2 ⟨rfl, rfl⟩
  clear cC
  go_wp2
  go_loopw [7, 8] (fun f q wr => ∃ (i : Nat) (v : Value), i ≤ l.length ∧ q = .int .i64 i ∧ v = f ∧ Hid (wr.ownsRow w.heap.size 37 2 v (sc k (l.take i)).length ((sc k (l.take i)).flatMap ec)) ∧ Below w.heap.size w wr) (fun _ q _ => l.length - (intOf q).toNat)
  case atStart => exact ⟨0, _, by omega, rfl, rfl, Lib.hid (World.ownsRow_nil _ _ _ _), hb1⟩
  case round =>
    obtain ⟨i, v0, hi, rfl, rfl, HF, hb⟩ := hrel
    clear hb1
    by_cases hlt : i < l.length
    · have i1 : (i : Int) < (l.length : Int) := by omega
      obtain ⟨b, off, rfl, x0, x1, -⟩ := (H.out.later hb).at_ hlt
      have lb := World.block_lt_of_cell? wr _ x0
      obtain ⟨hc, -, -⟩ := HS2.out _ (List.getElem_mem hlt)
      have hnext := sc_take k l i hlt
      have hm : -1000000 ≤ k * l[i].c ∧ k * l[i].c ≤ 1000000 := by
        have h1 : l[i].c.natAbs ≤ 1000 := by omega
        have h2 : k.natAbs ≤ 1000 := by omega
        have h3 := Nat.mul_le_mul h2 h1
        rw [← Int.natAbs_mul] at h3
        omega
      have hsl : (sc k (l.take i)).length ≤ 10000 := by rw [sc_len, List.length_take]; omega
      generalize l[i] = x at *
      obtain ⟨c, p, pa, pk⟩ := x
      simp only at *
      obtain ⟨m1, m2⟩ := hm
      have HN := Lib.hid hnext
      clear hnext
      go_wp2
      apply Made.region_one 14 (.cells #[.int .i64 (k * c), .slice pa p.length pk] 37) (fun g => .slice (some ⟨g, 0, none⟩) 1 1) (some 37) (by kernel_rfl) (by kernel_rfl) (by kernel_rfl)
      · intro B hB
        have kc := @Tail.cell_re
        have hcB := Tail.cells hB
        have zB0 := Nat.lt_of_lt_of_le lb hB.size
        simp only [List.take_succ_cons, List.take_zero]
        repeat (go_big_quiet_step (fail))
        exact wpQuiet_nil rfl
      · refine ⟨_, rfl, rfl, fun W => ⟨rfl, ?_⟩⟩
        simp [execOp, go_sem]
      · intro g W hg hW hx
        show wpList _ _ _ (List.drop 15 _) _ _
        simp only [List.drop_succ_cons, List.drop_zero]
        have y0 := Wide.cell_at hx 0 _ rfl
        have y1 := Wide.cell_at hx 1 _ rfl
        have hbW : Below w.heap.size w W := by repeat (first | (with_reducible exact Below.refl _ _) | (with_reducible refine Below.setCell ?_ ?_ _) | (with_reducible refine Below.drew ?_) | (with_reducible refine Below.alloc ?_ ?_ _) | (with_reducible refine Below.trans ?_ (Below.mono hW ?_)) | (with_reducible refine Below.trans ?_ (Below.mono hb ?_)) | (with_reducible exact hW.size) | (with_reducible exact hb.size) | omega | (simp <;> omega) | (simp <;> (have s := hW.size; omega)) | (simp <;> (have s := hb.size; omega)) | (have s0 := hW.size; (try simp at s0); have s1 := hb.size; (try simp at s1); (try simp); omega))
        have hsW := hbW.size
        obtain ⟨v2, X2, hr2, own2, gr2⟩ := run_append_E W 29 w.heap.size v0 _ _ (some ⟨g, 0, none⟩) 1 [(⟨k * c, p, pa, pk⟩ : E)] (owned_later HF.out hW) (.inr ⟨g, 0, rfl, rows_single rfl y0 y1⟩) hsW (by simp only [List.length_singleton]; omega)
        have hb3 : Below w.heap.size w X2 := hbW.grown gr2 hsW (fun j hj => (HF.out.lt j hj).1)
        simp only [List.length_singleton] at hr2
        have HF2 : Hid (X2.ownsRow w.heap.size 37 2 v2 (sc k (l.take (i + 1))).length ((sc k (l.take (i + 1))).flatMap ec)) := Lib.hid (by rw [HN.out]; simpa using own2)
        clear own2 gr2 HF hW hb hbW hsW hx y0 y1 x0 x1 lb
        go_wp2_with (at_builtin; refine Lib.wpList_append_run_sl _ rfl (.tmp 23) (.tmp 37) 29 rfl _ _ rfl rfl hr2 ?_)
        clear hr2
        go_wp2
        exact ⟨⟨i + 1, _, by omega, by go_num, rfl, HF2, hb3⟩, by simp [intOf]; omega⟩
    · obtain rfl : l.length = i := by omega
      have hF := HF.out
      rw [List.take_length] at hF
      obtain ⟨a2, c2, rfl, hrow, -⟩ := owned_rowsN ec_len hF
      have hT : Trs wr a2 (sc k l) := ⟨hrow.o, fun e he => by
        obtain ⟨x, hx, rfl⟩ := List.mem_map.1 he
        exact (H.out.later hb).p x hx⟩
      have cT := told_any a2 c2 (sc k l) wr hT (by rw [sc_len]; omega) HSS.out
      clear HF hF hrow hT
      go_wp2_with (fail)
      refine cT.mono ?_
      rintro e w2 ⟨hr, hw2⟩
      have hb3 := hb.trans (hw2.mono hb.size)
      clear cT hw2
      rcases hr.ex with ⟨a, c, es, rfl, HR⟩ | ⟨rfl, HR⟩
      · clear hr
        go_wp2
        go_ret2
        exact ⟨HR.out, hb3⟩
      · clear hr
        go_wp2
        go_ret2
        exact ⟨HR.out, hb3⟩
end Go.Proofs.Ytjidbajcnomceaa
