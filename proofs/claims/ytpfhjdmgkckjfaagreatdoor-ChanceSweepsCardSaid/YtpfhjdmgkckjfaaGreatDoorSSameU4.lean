/- What lies in memory while the first links of a field are swept; a list of moves that is being made.
Conditions: those written at each theorem. -/
import Derived.Test.YtpfhjdmgkckjfaaGreatDoorSDmC
import Derived.Test.YtpfhjdmgkckjfaaGreatDoorSFieldC
import Derived.Test.YtpfhjdmgkckjfaaGreatDoorSThrM
import Derived.Test.YtpfhjdmgkckjfaaGreatDoorSDist
namespace Go.Proofs.YtpfhjdmgkckjfaaGreatDoor
set_option linter.unusedVariables false
set_option linter.unusedSimpArgs false
set_option maxRecDepth 1000000
open Go.RowKit
open Um Tm Cm

theorem c5_grown {w w1 : World} {b : Nat} {v0 v1 v2 v3 v4 : Value} {row : Option Nat} (h : C5 w b v0 v1 v2 v3 v4) (hg : w.grownBy w1 row) (hne : some b ≠ row) : C5 w1 b v0 v1 v2 v3 v4 := by
  obtain ⟨a0, a1, a2, a3, a4, af, al⟩ := h
  exact ⟨hg.cell a0 hne, hg.cell a1 hne, hg.cell a2 hne, hg.cell a3 hne, hg.cell a4 hne, fun j => (World.frozen?_of_block (a := ⟨b, j, none⟩) (hg.block b al hne)).trans (af j), Nat.lt_of_lt_of_le al hg.size⟩
/-- what lies in memory while links are swept -/
structure SwB (w X : World) (a b c p0 p1 p2 p3 p4 : Int) (gB tb g gk N : Nat) (P : List Q) (s : Int) : Prop where
  e : C5 X (w.heap.size + 1) (.int .i64 p0) (.int .i64 p1) (.int .i64 p2) (.int .i64 p3) (.int .i64 p4)
  z : FW X (w.heap.size + 1 + 1) 0 0 0 (.slice none 0 0)
  gb : GBox X gB s
  t : FW X tb a b c (.slice (some ⟨g, 0, none⟩) N gk)
  l : LBox X g P
  b : Below w.heap.size w X
  o1 : w.heap.size + 1 + 1 < gB
  o2 : gB < g
  o3 : g < tb
section
variable {w X Y : World} {a b c p0 p1 p2 p3 p4 s : Int} {gB tb g gk N : Nat} {P : List Q}
theorem SwB.later (h : SwB w X a b c p0 p1 p2 p3 p4 gB tb g gk N P s) (hb : Below X.heap.size X Y) : SwB w Y a b c p0 p1 p2 p3 p4 gB tb g gk N P s :=
  ⟨h.e.later hb, h.z.later hb, h.gb.later hb, h.t.later hb, h.l.later hb, h.b.trans (hb.mono h.b.size), h.o1, h.o2, h.o3⟩
theorem SwB.far {row : Option Nat} (h : SwB w X a b c p0 p1 p2 p3 p4 gB tb g gk N P s) (hg : X.grownBy Y row) (hr : ∀ k, row = some k → tb < k) : SwB w Y a b c p0 p1 p2 p3 p4 gB tb g gk N P s := by
  have ne : ∀ i, i ≤ tb → some i ≠ row := fun i hi e => by have := hr i e.symm; omega
  have o1 := h.o1
  have o2 := h.o2
  have o3 := h.o3
  exact ⟨c5_grown h.e hg (ne _ (by omega)), h.z.grown hg (ne _ (by omega)), h.gb.grown hg (ne _ (by omega)), h.t.grown hg (ne _ (by omega)), h.l.grown hg (ne _ (by omega)), h.b.grown hg h.b.size (fun j e => by have := hr j e; omega), o1, o2, o3⟩
theorem SwB.drew {s' : Int} (h : SwB w X a b c p0 p1 p2 p3 p4 gB tb g gk N P s) (hg : X.grownBy Y (some gB)) (hgb : GBox Y gB s') : SwB w Y a b c p0 p1 p2 p3 p4 gB tb g gk N P s' := by
  have ne : ∀ i, i ≠ gB → some i ≠ some gB := fun i hi e => hi (Option.some.inj e)
  have o1 := h.o1
  have o2 := h.o2
  have o3 := h.o3
  exact ⟨c5_grown h.e hg (ne _ (by omega)), h.z.grown hg (ne _ (by omega)), hgb, h.t.grown hg (ne _ (by omega)), h.l.grown hg (ne _ (by omega)), h.b.grown hg h.b.size (fun j e => by cases e; omega), o1, o2, o3⟩
theorem SwB.put (h : SwB w X a b c p0 p1 p2 p3 p4 gB tb g gk N P s) (k : Nat) (hk : k < P.length) (u : Q) : SwB w (X.setCells g (k * 5) (uc u)) a b c p0 p1 p2 p3 p4 gB tb g gk N (P.set k u) s := by
  have hg := grown_setCells g (uc u) (k * 5) X
  have ne : ∀ i, i ≠ g → some i ≠ some g := fun i hi e => hi (Option.some.inj e)
  have o1 := h.o1
  have o2 := h.o2
  have o3 := h.o3
  exact ⟨c5_grown h.e hg (ne _ (by omega)), h.z.grown hg (ne _ (by omega)), h.gb.grown hg (ne _ (by omega)), h.t.grown hg (ne _ (by omega)), h.l.put k hk u, h.b.grown hg h.b.size (fun j e => by cases e; omega), o1, o2, o3⟩
end
theorem liesOI_far {w w1 : World} {ao : Option Addr} {l : List Int} {row : Option Nat} (h : LiesOI w ao l) (hg : w.grownBy w1 row) (hne : ∀ (b f : Nat), ao = some ⟨b, f, none⟩ → some b ≠ row) : LiesOI w1 ao l := by
  rcases h with h | ⟨b, f, e, h⟩
  · exact .inl h
  · exact .inr ⟨b, f, e, fun i x hx => hg.cell (h i x hx) (hne b f e)⟩
theorem infoMv : (Tryz.prog.info? 106).map (fun i => (i.zero, i.size, i.bytes)) = some (some (.agg #[.int .i64 0, .int .i64 0, .int .i64 0, .int .i64 0]), 4, 32) := by kernel_rfl
theorem four_cells {w : World} {b : Nat} {vs : List Value} {v0 v1 v2 v3 : Value} (hv : vs = [v0, v1, v2, v3]) (h0 : w.cell? ⟨b, 0, none⟩ = some v0) (h1 : w.cell? ⟨b, 1, none⟩ = some v1) (h2 : w.cell? ⟨b, 2, none⟩ = some v2) (h3 : w.cell? ⟨b, 3, none⟩ = some v3) : ∀ j u, vs[j]? = some u → w.cell? (Addr.add ⟨b, 0, none⟩ j) = some u := by
  subst hv
  intro j u hj
  match j, hj with
  | 0, hj => simp at hj; subst hj; exact h0
  | 1, hj => simp at hj; subst hj; exact h1
  | 2, hj => simp at hj; subst hj; exact h2
  | 3, hj => simp at hj; subst hj; exact h3
  | n + 4, hj => simp at hj
theorem four_one {a b c d : Int} : ∀ u ∈ [vi a, vi b, vi c, vi d], u.oneCell' = true := by
  intro u hu
  simp at hu
  rcases hu with rfl | rfl | rfl | rfl <;> rfl
/-- a list of moves lies in memory -/
theorem owned_moves {w : World} {base : Nat} {T : TypeId} {v : Value} {n : Nat} {l : List Int} (h : w.ownsRow base T 4 v n (l.map vi)) (hl : l.length = n * 4) : ∃ ao cap, v = .slice ao n cap ∧ LiesOI w ao l ∧ n ≤ cap := by
  rcases h.2 with ⟨rfl, h0⟩ | ⟨g, cap, cur, rfl, hg, _, hnc, _⟩
  · subst h0
    exact ⟨none, 0, rfl, .inl (List.length_eq_zero_iff.1 (by omega)), by omega⟩
  · refine ⟨_, cap, rfl, .inr ⟨g, 0, rfl, fun i x hx => ?_⟩, hnc⟩
    have hi : i < l.length := (List.getElem?_eq_some_iff.1 hx).1
    rw [Nat.zero_add, h.cellAt i (by omega), List.getElem?_map, hx]
    rfl
end Go.Proofs.YtpfhjdmgkckjfaaGreatDoor

namespace Go.Proofs.YtpfhjdmgkckjfaaGreatDoor
set_option linter.unusedVariables false
set_option linter.unusedSimpArgs false
set_option maxRecDepth 1000000
open Go.RowKit
open Um Tm

set_option maxHeartbeats 1600000 in
theorem sameU4_some (b1 o1 c1 b2 o2 c2 : Nat) (L : List Q) (w : World) (h1 : Lies w b1 o1 L) (h2 : Lies w b2 o2 L) (hlen : L.length ≤ 1000000) :
    Calls Tryz.prog 54 #[.slice (some ⟨b1, o1, none⟩) L.length c1, .slice (some ⟨b2, o2, none⟩) L.length c2] w fun e w' => e = .returned (.bool true) ∧ Below w.heap.size w w' := by
  have H1 := Lib.hid h1
  have H2 := Lib.hid h2
  have kc := @Tail.cell_re; have kc1 : ∀ (W : World) (o : Obj) (d : Nat) (os : Array Obj) (a : Addr), a.block ≤ W.heap.size → (Sort.grow (redrawn (W.alloc o) d) os).cell? a = (W.alloc o).cell? a := fun W o d os a h => Tail.cell_re (W.alloc o) d os a (Nat.lt_of_le_of_lt h (by simp))
  clear h1 h2
  go_enter Tryz.func54, Tryz.ntmps54
  go_wp2
  go_loopw [5] (fun q wr => ∃ k : Nat, k ≤ L.length ∧ q = .int .i64 k ∧ Below w.heap.size w wr) (fun q _ => L.length - (intOf q).toNat)
  case atStart => exact ⟨0, by omega, rfl, by repeat (first | (with_reducible exact Below.refl _ _) | (with_reducible refine Below.setCell ?_ ?_ _) | (with_reducible refine Below.drew ?_) | (with_reducible refine Below.alloc ?_ ?_ _) | omega | (simp <;> omega))⟩
  case round =>
    obtain ⟨k, hk, rfl, hb⟩ := hrel
    by_cases hlt : k < L.length
    · obtain ⟨l0, l1, l2, l3, l4⟩ := H1.out.later hb k _ (List.getElem?_eq_getElem hlt)
      obtain ⟨m0, m1, m2, m3, m4⟩ := H2.out.later hb k _ (List.getElem?_eq_getElem hlt)
      have lb1 : b1 < wr.heap.size := World.block_lt_of_cell? wr _ l0
      have lb2 : b2 < wr.heap.size := World.block_lt_of_cell? wr _ m0
      generalize L[k] = x at *
      have qx : ∀ W, Sem.run Tryz.prog (Op.equalIn 10000 73 (.agg #[.int .i64 x.a, .int .i64 x.b, .int .i64 x.c, .int .i64 x.d, .int .i64 x.n]) (.agg #[.int .i64 x.a, .int .i64 x.b, .int .i64 x.c, .int .i64 x.d, .int .i64 x.n])) W = .ok true W := fun W => by simpa using eqU x x W
      have i1 : (k : Int) < (L.length : Int) := by omega
      have hbs := hb.size
      go_wp2
      refine Tail.region_below (by kernel_rfl) (by kernel_rfl) ?_
      repeat (go_big_quiet_step (fail))
      refine wpQuiet_nil ?_
      intro w1 hw1
      clear l0 l1 l2 l3 l4 m0 m1 m2 m3 m4
      go_wp2
      exact ⟨⟨k + 1, by omega, by go_num, by repeat (first | (with_reducible exact Below.refl _ _) | (with_reducible refine Below.setCell ?_ ?_ _) | (with_reducible refine Below.drew ?_) | (with_reducible refine Below.alloc ?_ ?_ _) | (with_reducible refine Below.trans ?_ (Below.mono hw1 ?_)) | (with_reducible refine Below.trans ?_ (Below.mono hb ?_)) | (with_reducible exact hw1.size) | (with_reducible exact hb.size) | omega | (simp <;> omega) | (simp <;> (have s := hw1.size; omega)) | (simp <;> (have s := hb.size; omega)) | (have s0 := hw1.size; (try simp at s0); have s1 := hb.size; (try simp at s1); (try simp); omega))⟩, by simp [intOf]; omega⟩
    · obtain rfl : k = L.length := by omega
      go_wp2
      go_ret
      exact ⟨rfl, hb⟩
set_option maxHeartbeats 800000 in
theorem sameU4_nil (a1 a2 : Option Addr) (c1 c2 : Nat) (w : World) :
    Calls Tryz.prog 54 #[.slice a1 0 c1, .slice a2 0 c2] w fun e w' => e = .returned (.bool true) ∧ Below w.heap.size w w' := by
  go_enter Tryz.func54, Tryz.ntmps54
  go_wp2
  refine wp_loop_rounds 1 ?_
  rw [rounds_succ]
  go_wp2
  go_ret
  exact ⟨rfl, by repeat (first | (with_reducible exact Below.refl _ _) | (with_reducible refine Below.setCell ?_ ?_ _) | (with_reducible refine Below.drew ?_) | (with_reducible refine Below.alloc ?_ ?_ _) | omega | (simp <;> omega))⟩
theorem sameU4_any (a1 a2 : Option Addr) (c1 c2 : Nat) (L : List Q) (w : World) (h1 : LiesO w a1 L) (h2 : LiesO w a2 L) (hlen : L.length ≤ 1000000) :
    Calls Tryz.prog 54 #[.slice a1 L.length c1, .slice a2 L.length c2] w fun e w' => e = .returned (.bool true) ∧ Below w.heap.size w w' := by
  rcases h1 with rfl | ⟨b1, o1, rfl, h1⟩
  · exact sameU4_nil a1 a2 c1 c2 w
  · rcases h2 with rfl | ⟨b2, o2, rfl, h2⟩
    · exact sameU4_nil _ a2 c1 c2 w
    · exact sameU4_some b1 o1 c1 b2 o2 c2 L w h1 h2 hlen
set_option maxHeartbeats 1600000 in
theorem sameF4_any (a b c : Int) (a1 a2 : Option Addr) (c1 c2 : Nat) (L : List Q) (w : World) (h1 : LiesO w a1 L) (h2 : LiesO w a2 L) (hlen : L.length ≤ 1000000) :
    Calls Tryz.prog 20 #[.agg #[.int .i64 a, .int .i64 b, .int .i64 c, .slice a1 L.length c1], .agg #[.int .i64 a, .int .i64 b, .int .i64 c, .slice a2 L.length c2]] w fun e w' => e = .returned (.bool true) ∧ Below w.heap.size w w' := by
  have qa := eqA3 a b c
  have H1 := Lib.hid h1
  have H2 := Lib.hid h2
  have c3 := fun (W : World) (hb : Below w.heap.size w W) => sameU4_any a1 a2 c1 c2 L W (h1.later hb) (h2.later hb) hlen
  have hB : Below w.heap.size w ((w.alloc (.cells #[.int .i64 a, .int .i64 b, .int .i64 c, .slice a1 L.length c1] 25)).alloc (.cells #[.int .i64 a, .int .i64 b, .int .i64 c, .slice a2 L.length c2] 25)) := by repeat (first | (with_reducible exact Below.refl _ _) | (with_reducible refine Below.setCell ?_ ?_ _) | (with_reducible refine Below.drew ?_) | (with_reducible refine Below.alloc ?_ ?_ _) | omega | (simp <;> omega))
  have c4 := c3 _ hB
  clear h1 h2 c3
  go_enter Tryz.func20, Tryz.ntmps20
  go_wp2_with ((with_reducible refine c4.mono ?_); rintro e w1 ⟨rfl, hw1⟩)
  go_ret
  exact ⟨rfl, by repeat (first | (with_reducible exact Below.refl _ _) | (with_reducible refine Below.setCell ?_ ?_ _) | (with_reducible refine Below.drew ?_) | (with_reducible refine Below.alloc ?_ ?_ _) | (with_reducible refine Below.trans ?_ (Below.mono hw1 ?_)) | (with_reducible refine Below.trans ?_ (Below.mono hB ?_)) | (with_reducible exact hw1.size) | (with_reducible exact hB.size) | omega | (simp <;> omega) | (simp <;> (have s := hw1.size; omega)) | (simp <;> (have s := hB.size; omega)) | (have s0 := hw1.size; (try simp at s0); have s1 := hB.size; (try simp at s1); (try simp); omega))⟩
end Go.Proofs.YtpfhjdmgkckjfaaGreatDoor
