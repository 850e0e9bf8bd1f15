/- What lies in memory while the first links of a field are swept; a list of moves that is being made.
Conditions: those written at each theorem. -/
import Derived.Test.YtpfhjdmgkckjfaaGreatDoorADmC
import Derived.Test.YtpfhjdmgkckjfaaGreatDoorAOpenW5
import Derived.Test.YtpfhjdmgkckjfaaGreatDoorAShelf
import Derived.OpenShut
namespace Go.Proofs.YtpfhjdmgkckjfaaGreatDoor
set_option linter.unusedVariables false
set_option linter.unusedSimpArgs false
set_option maxRecDepth 1000000
open Go.RowKit
open Um Tm Cm

theorem c5_grown {w w1 : World} {b : Nat} {v0 v1 v2 v3 v4 : Value} {row : Option Nat} (h : C5 w b v0 v1 v2 v3 v4) (hg : w.grownBy w1 row) (hne : some b ≠ row) : C5 w1 b v0 v1 v2 v3 v4 := by
  obtain ⟨a0, a1, a2, a3, a4, af, al⟩ := h
  exact ⟨hg.cell a0 hne, hg.cell a1 hne, hg.cell a2 hne, hg.cell a3 hne, hg.cell a4 hne, fun j => (World.frozen?_of_block (a := ⟨b, j, none⟩) (hg.block b al hne)).trans (af j), Nat.lt_of_lt_of_le al hg.size⟩
/-- what lies in memory while links are swept -/
structure SwB (w X : World) (a b c p0 p1 p2 p3 p4 : Int) (gB tb g gk N : Nat) (P : List Q) (s : Int) : Prop where
  e : C5 X (w.heap.size + 1) (.int .i64 p0) (.int .i64 p1) (.int .i64 p2) (.int .i64 p3) (.int .i64 p4)
  z : FW X (w.heap.size + 1 + 1) 0 0 0 (.slice none 0 0)
  gb : GBox X gB s
  t : FW X tb a b c (.slice (some ⟨g, 0, none⟩) N gk)
  l : LBox X g P
  b : Below w.heap.size w X
  o1 : w.heap.size + 1 + 1 < gB
  o2 : gB < g
  o3 : g < tb
section
variable {w X Y : World} {a b c p0 p1 p2 p3 p4 s : Int} {gB tb g gk N : Nat} {P : List Q}
theorem SwB.later (h : SwB w X a b c p0 p1 p2 p3 p4 gB tb g gk N P s) (hb : Below X.heap.size X Y) : SwB w Y a b c p0 p1 p2 p3 p4 gB tb g gk N P s :=
  ⟨h.e.later hb, h.z.later hb, h.gb.later hb, h.t.later hb, h.l.later hb, h.b.trans (hb.mono h.b.size), h.o1, h.o2, h.o3⟩
theorem SwB.far {row : Option Nat} (h : SwB w X a b c p0 p1 p2 p3 p4 gB tb g gk N P s) (hg : X.grownBy Y row) (hr : ∀ k, row = some k → tb < k) : SwB w Y a b c p0 p1 p2 p3 p4 gB tb g gk N P s := by
  have ne : ∀ i, i ≤ tb → some i ≠ row := fun i hi e => by have := hr i e.symm; omega
  have o1 := h.o1
  have o2 := h.o2
  have o3 := h.o3
  exact ⟨c5_grown h.e hg (ne _ (by omega)), h.z.grown hg (ne _ (by omega)), h.gb.grown hg (ne _ (by omega)), h.t.grown hg (ne _ (by omega)), h.l.grown hg (ne _ (by omega)), h.b.grown hg h.b.size (fun j e => by have := hr j e; omega), o1, o2, o3⟩
theorem SwB.drew {s' : Int} (h : SwB w X a b c p0 p1 p2 p3 p4 gB tb g gk N P s) (hg : X.grownBy Y (some gB)) (hgb : GBox Y gB s') : SwB w Y a b c p0 p1 p2 p3 p4 gB tb g gk N P s' := by
  have ne : ∀ i, i ≠ gB → some i ≠ some gB := fun i hi e => hi (Option.some.inj e)
  have o1 := h.o1
  have o2 := h.o2
  have o3 := h.o3
  exact ⟨c5_grown h.e hg (ne _ (by omega)), h.z.grown hg (ne _ (by omega)), hgb, h.t.grown hg (ne _ (by omega)), h.l.grown hg (ne _ (by omega)), h.b.grown hg h.b.size (fun j e => by cases e; omega), o1, o2, o3⟩
theorem SwB.put (h : SwB w X a b c p0 p1 p2 p3 p4 gB tb g gk N P s) (k : Nat) (hk : k < P.length) (u : Q) : SwB w (X.setCells g (k * 5) (uc u)) a b c p0 p1 p2 p3 p4 gB tb g gk N (P.set k u) s := by
  have hg := grown_setCells g (uc u) (k * 5) X
  have ne : ∀ i, i ≠ g → some i ≠ some g := fun i hi e => hi (Option.some.inj e)
  have o1 := h.o1
  have o2 := h.o2
  have o3 := h.o3
  exact ⟨c5_grown h.e hg (ne _ (by omega)), h.z.grown hg (ne _ (by omega)), h.gb.grown hg (ne _ (by omega)), h.t.grown hg (ne _ (by omega)), h.l.put k hk u, h.b.grown hg h.b.size (fun j e => by cases e; omega), o1, o2, o3⟩
end
theorem liesOI_far {w w1 : World} {ao : Option Addr} {l : List Int} {row : Option Nat} (h : LiesOI w ao l) (hg : w.grownBy w1 row) (hne : ∀ (b f : Nat), ao = some ⟨b, f, none⟩ → some b ≠ row) : LiesOI w1 ao l := by
  rcases h with h | ⟨b, f, e, h⟩
  · exact .inl h
  · exact .inr ⟨b, f, e, fun i x hx => hg.cell (h i x hx) (hne b f e)⟩
theorem infoMv : (Tryz.prog.info? 106).map (fun i => (i.zero, i.size, i.bytes)) = some (some (.agg #[.int .i64 0, .int .i64 0, .int .i64 0, .int .i64 0]), 4, 32) := by kernel_rfl
theorem four_cells {w : World} {b : Nat} {vs : List Value} {v0 v1 v2 v3 : Value} (hv : vs = [v0, v1, v2, v3]) (h0 : w.cell? ⟨b, 0, none⟩ = some v0) (h1 : w.cell? ⟨b, 1, none⟩ = some v1) (h2 : w.cell? ⟨b, 2, none⟩ = some v2) (h3 : w.cell? ⟨b, 3, none⟩ = some v3) : ∀ j u, vs[j]? = some u → w.cell? (Addr.add ⟨b, 0, none⟩ j) = some u := by
  subst hv
  intro j u hj
  match j, hj with
  | 0, hj => simp at hj; subst hj; exact h0
  | 1, hj => simp at hj; subst hj; exact h1
  | 2, hj => simp at hj; subst hj; exact h2
  | 3, hj => simp at hj; subst hj; exact h3
  | n + 4, hj => simp at hj
theorem four_one {a b c d : Int} : ∀ u ∈ [vi a, vi b, vi c, vi d], u.oneCell' = true := by
  intro u hu
  simp at hu
  rcases hu with rfl | rfl | rfl | rfl <;> rfl
/-- a list of moves lies in memory -/
theorem owned_moves {w : World} {base : Nat} {T : TypeId} {v : Value} {n : Nat} {l : List Int} (h : w.ownsRow base T 4 v n (l.map vi)) (hl : l.length = n * 4) : ∃ ao cap, v = .slice ao n cap ∧ LiesOI w ao l ∧ n ≤ cap := by
  rcases h.2 with ⟨rfl, h0⟩ | ⟨g, cap, cur, rfl, hg, _, hnc, _⟩
  · subst h0
    exact ⟨none, 0, rfl, .inl (List.length_eq_zero_iff.1 (by omega)), by omega⟩
  · refine ⟨_, cap, rfl, .inr ⟨g, 0, rfl, fun i x hx => ?_⟩, hnc⟩
    have hi : i < l.length := (List.getElem?_eq_some_iff.1 hx).1
    rw [Nat.zero_add, h.cellAt i (by omega), List.getElem?_map, hx]
    rfl
end Go.Proofs.YtpfhjdmgkckjfaaGreatDoor

namespace Go.Proofs.YtpfhjdmgkckjfaaGreatDoor
set_option linter.unusedVariables false
set_option linter.unusedSimpArgs false
set_option maxRecDepth 1000000
section
open Go.ChangeShapes Go.WideShapes Go.ChangeAt Go.RowKit Go.Joins Go.Deep
variable {H : Type} {enc : TypeId × Value → H} {w : World} {base : Nat} {spare : Nat → Bool} {held : Bool}
theorem cellsMv5 : Tryz.prog.cellsOf 106 = 4 := by kernel_rfl
theorem cellsMs5 : Tryz.prog.cellsOf 57 = 2 := by kernel_rfl
theorem cellsSm5 : Tryz.prog.cellsOf 50 = 1 := by kernel_rfl
theorem one_ofMv5 {fs : Array Field} (_ : Tryz.prog.underlying 106 = some (.struct fs)) (h : oneCellFields Tryz.prog fs = true) : oneCellFields Tryz.prog fs = true := h
theorem one_ofMs5 {fs : Array Field} (_ : Tryz.prog.underlying 57 = some (.struct fs)) (h : oneCellFields Tryz.prog fs = true) : oneCellFields Tryz.prog fs = true := h
theorem trod_move {fuel : Nat} {cs : List Value} {x : DataW H × List MemPlace} (hl : cs.length = 4) (h : DataW.trod enc Tryz.prog w base spare held fuel 106 cs = some x) : ∀ j, j < 4 → ∃ z : Int, cs[j]? = some (.int .i64 z) := by
  match cs, hl with
  | [c0, c1, c2, c3], _ =>
    obtain ⟨xs, n, _, _, _, hlen, hg⟩ := DataW.trod_struct Tryz.underlying106 h
    have hone := one_ofMv5 (fs := _) Tryz.underlying106 (by kernel_rfl)
    match xs, hlen with
    | [y0, y1, y2, y3], _ =>
      obtain ⟨o0, k0⟩ := hone_of hone 0 _ rfl
      obtain ⟨o1, k1⟩ := hone_of hone 1 _ rfl
      obtain ⟨o2, k2⟩ := hone_of hone 2 _ rfl
      obtain ⟨o3, k3⟩ := hone_of hone 3 _ rfl
      obtain ⟨a0, e0, _, _⟩ := DataW.trod_int Tryz.underlying3 (show DataW.trod enc Tryz.prog w base spare held n 3 [c0] = some y0 by simpa [Value.cells, o0, cells3] using hg 0 _ rfl)
      obtain ⟨a1, e1, _, _⟩ := DataW.trod_int Tryz.underlying3 (show DataW.trod enc Tryz.prog w base spare held n 3 [c1] = some y1 by simpa [Value.cells, o1, cells3] using hg 1 _ rfl)
      obtain ⟨a2, e2, _, _⟩ := DataW.trod_int Tryz.underlying3 (show DataW.trod enc Tryz.prog w base spare held n 3 [c2] = some y2 by simpa [Value.cells, o2, cells3] using hg 2 _ rfl)
      obtain ⟨a3, e3, _, _⟩ := DataW.trod_int Tryz.underlying3 (show DataW.trod enc Tryz.prog w base spare held n 3 [c3] = some y3 by simpa [Value.cells, o3, cells3] using hg 3 _ rfl)
      simp at e0 e1 e2 e3
      subst e0 e1 e2 e3
      intro j hj
      match j, hj with
      | 0, _ => exact ⟨a0, rfl⟩
      | 1, _ => exact ⟨a1, rfl⟩
      | 2, _ => exact ⟨a2, rfl⟩
      | 3, _ => exact ⟨a3, rfl⟩
theorem trod_moves {fuel : Nat} {cs : List Value} {x : DataW H × List MemPlace} (h : DataW.trod enc Tryz.prog w base spare held fuel 50 cs = some x) : ∃ (po : Option Addr) (l : List Int) (n cap : Nat), cs = [.slice po n cap] ∧ l.length = n * 4 ∧ n ≤ cap ∧ cap ≤ maxLen ∧ LiesOI w po l := by
  rcases open_slice Tryz.underlying50 h with ⟨rfl, -⟩ | ⟨a, len, cap, m, n, D, Pl, rfl, hb, hl, hm, hmm, hx, hi⟩
  · exact ⟨none, [], 0, 0, rfl, rfl, Nat.le_refl _, by simp, .inl rfl⟩
  · obtain ⟨l, hlen, hL⟩ := list_of (len * 4) (fun i (q : Int) => w.cell? (a.add i) = some (.int .i64 q)) (fun i hi3 => by
      have him : i / 4 < m := by rw [hmm]; split <;> omega
      obtain ⟨cs', hc, ht'⟩ := hi (i / 4) him
      rw [cellsMv5] at hc
      obtain ⟨_, hcl, hat⟩ := World.cells?_some hc
      have h3 : i % 4 < 4 := Nat.mod_lt _ (by decide)
      have hcell := hat (i % 4) h3
      obtain ⟨z, hz⟩ := trod_move hcl ht' (i % 4) h3
      refine ⟨z, ?_⟩
      have e : a.add i = (a.add (i / 4 * 4)).add (i % 4) := by rw [Go.Deep.add_add]; congr 1; omega
      rw [e, hcell, hz])
    refine ⟨some a, l, len, cap, rfl, hlen, hl, hm, ?_⟩
    by_cases he : l = []
    · exact .inl he
    · have hp : 0 < l.length := by cases h : l; exact absurd h he; simp
      have h0 := hL 0 l[0] (List.getElem?_eq_getElem hp)
      obtain ⟨b, off, spot⟩ := a
      have hs := World.cell?_spot h0
      simp [Addr.add] at hs
      subst hs
      refine .inr ⟨b, off, rfl, fun i x hx => ?_⟩
      have c0 := hL i x hx
      have f : ∀ n, Addr.add ⟨b, off, none⟩ n = ⟨b, off + n, none⟩ := fun n => by
        unfold Addr.add
        split
        · rename_i h; subst h; rfl
        · rfl
      rw [f] at c0
      exact c0
theorem open_moves5 {r : Reach} {b0 : Nat} {v : Value} {d : DataW H} {p : List MemPlace} (hv : Value.okWide Tryz.prog w r b0 57 v) (h : DataW.Trod enc Tryz.prog w base spare held 57 v d p) : ∃ (sd : Int) (mo : Option Addr) (l : List Int) (n mc : Nat), v = .agg #[.int .i64 sd, .slice mo n mc] ∧ l.length = n * 4 ∧ LiesOI w mo l := by
  obtain ⟨cs, rfl, hsz⟩ := okWide_struct Tryz.underlying57 hv
  obtain ⟨ls⟩ := cs
  match ls, hsz.trans cellsMs5 with
  | [c0, c1], _ =>
    obtain ⟨fuel, hf⟩ := h
    obtain ⟨xs, n, _, _, _, hlen, hg⟩ := DataW.trod_struct Tryz.underlying57 hf
    have hone := one_ofMs5 (fs := _) Tryz.underlying57 (by kernel_rfl)
    match xs, hlen with
    | [y0, y1], _ =>
      obtain ⟨o0, k0⟩ := hone_of hone 0 _ rfl
      obtain ⟨o1, k1⟩ := hone_of hone 1 _ rfl
      obtain ⟨s, e0, _, _⟩ := DataW.trod_int Tryz.underlying3 (show DataW.trod enc Tryz.prog w base spare held n 3 [c0] = some y0 by simpa [Value.cells, o0, cells3] using hg 0 _ rfl)
      obtain ⟨ao, l, k, cap, e1, hl, hc, hm, ho⟩ := trod_moves (show DataW.trod enc Tryz.prog w base spare held n 50 [c1] = some y1 by simpa [Value.cells, o1, cellsSm5] using hg 1 _ rfl)
      simp at e0 e1
      subst e0 e1
      exact ⟨s, ao, l, k, cap, rfl, hl, ho⟩
end
end Go.Proofs.YtpfhjdmgkckjfaaGreatDoor
