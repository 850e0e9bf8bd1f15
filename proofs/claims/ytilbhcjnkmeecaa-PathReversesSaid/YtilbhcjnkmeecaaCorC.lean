/- The memory of a trajectory: a table of products, links and momenta as numbers, neighbours; how it is kept.
Conditions: those written at each theorem. -/
import Derived.Test.YtilbhcjnkmeecaaKickB
import Derived.Test.YtilbhcjnkmeecaaKdM
import Derived.Test.YtilbhcjnkmeecaaTabB
import Derived.Maps.Range
import Derived.Maps.AppendAt
namespace Go.Proofs.Ytilbhcjnkmeecaa
set_option linter.unusedVariables false
set_option linter.unusedSimpArgs false
set_option maxRecDepth 1000000
open Go.RowKit
open Um Tm Cm Km

theorem grown_ofB {w w1 : World} {row : Option Nat} (h : Below w.heap.size w w1) : w.grownBy w1 row := ⟨h.os, h.tape, h.output, h.size, fun k hk _ => h.block k hk⟩
/-- the table of products in a block -/
structure PR (w : World) (b : Nat) : Prop where
  un : ∀ i : Nat, i < 24 → w.cell? ⟨b, i * 5, none⟩ = some (.int .i64 (small i).a) ∧ w.cell? ⟨b, i * 5 + 1, none⟩ = some (.int .i64 (small i).b) ∧ w.cell? ⟨b, i * 5 + 2, none⟩ = some (.int .i64 (small i).c) ∧ w.cell? ⟨b, i * 5 + 3, none⟩ = some (.int .i64 (small i).d) ∧ w.cell? ⟨b, i * 5 + 4, none⟩ = some (.int .i64 (small i).n)
  iv : ∀ i : Nat, i < 24 → w.cell? ⟨b, 120 + i, none⟩ = some (.int .i64 (nm (bar (small i))))
  kn : ∀ i j : Nat, i < 24 → j < 24 → ∃ (q : Bool) (v : Int), w.cell? ⟨b, 144 + (i * 24 + j), none⟩ = some (.bool q) ∧ w.cell? ⟨b, 720 + (i * 24 + j), none⟩ = some (.int .i64 v) ∧ (q = true → v = nm (low (mul (small i) (small j))))
  free : ∀ j, w.frozen? ⟨b, j, none⟩ = false
  lt : b < w.heap.size
theorem PR.grown {w w1 : World} {b : Nat} {row : Option Nat} (k : PR w b) (hg : w.grownBy w1 row) (hne : some b ≠ row) : PR w1 b :=
  ⟨fun i hi => by
    obtain ⟨h0, h1, h2, h3, h4⟩ := k.un i hi
    exact ⟨hg.cell h0 hne, hg.cell h1 hne, hg.cell h2 hne, hg.cell h3 hne, hg.cell h4 hne⟩,
   fun i hi => hg.cell (k.iv i hi) hne,
   fun i j hi hj => by
    obtain ⟨q, v, h1, h2, h3⟩ := k.kn i j hi hj
    exact ⟨q, v, hg.cell h1 hne, hg.cell h2 hne, h3⟩,
   fun j => (World.frozen?_of_block (a := ⟨b, j, none⟩) (hg.block b k.lt hne)).trans (k.free j), Nat.lt_of_lt_of_le k.lt hg.size⟩
theorem PR.later {w w1 : World} {b : Nat} (k : PR w b) (hb : Below w.heap.size w w1) : PR w1 b := k.grown (row := none) (grown_ofB hb) (by simp)
theorem nat24 {i j k l : Nat} (hj : j < 24) (hl : l < 24) (h : i * 24 + j = k * 24 + l) : i = k ∧ j = l := by omega
/-- a product becomes known -/
theorem PR.of_put {w w1 : World} {b : Nat} (k : PR w b) {i j : Nat} (hi : i < 24) (hj : j < 24) {v : Int} (hv : v = nm (low (mul (small i) (small j)))) (h1 : w1.cell? ⟨b, 720 + (i * 24 + j), none⟩ = some (.int .i64 v)) (h2 : w1.cell? ⟨b, 144 + (i * 24 + j), none⟩ = some (.bool true)) (o : ∀ (n : Nat) (x : Value), n ≠ 720 + (i * 24 + j) → n ≠ 144 + (i * 24 + j) → w.cell? ⟨b, n, none⟩ = some x → w1.cell? ⟨b, n, none⟩ = some x) (hf : ∀ j, w1.frozen? ⟨b, j, none⟩ = w.frozen? ⟨b, j, none⟩) (hl : w1.heap.size = w.heap.size) : PR w1 b := by
  refine ⟨fun i' hi' => ?_, fun i' hi' => o _ _ (by omega) (by omega) (k.iv i' hi'), fun i' j' hi' hj' => ?_, fun j' => (hf j').trans (k.free j'), by rw [hl]; exact k.lt⟩
  · obtain ⟨h0, h1, h2, h3, h4⟩ := k.un i' hi'
    exact ⟨o _ _ (by omega) (by omega) h0, o _ _ (by omega) (by omega) h1, o _ _ (by omega) (by omega) h2, o _ _ (by omega) (by omega) h3, o _ _ (by omega) (by omega) h4⟩
  · by_cases he : i' = i ∧ j' = j
    · obtain ⟨rfl, rfl⟩ := he
      exact ⟨true, v, h2, h1, fun _ => hv⟩
    · obtain ⟨q, u, b0, b1, b2⟩ := k.kn i' j' hi' hj'
      have hne : i' * 24 + j' ≠ i * 24 + j := fun h => he (nat24 hj' hj h)
      exact ⟨q, u, o _ _ (by omega) (by omega) b0, o _ _ (by omega) (by omega) b1, b2⟩
theorem PR.put {w : World} {b : Nat} (k : PR w b) {i j : Nat} (hi : i < 24) (hj : j < 24) {v : Int} (hv : v = nm (low (mul (small i) (small j)))) : PR ((w.setCell ⟨b, 720 + (i * 24 + j), none⟩ (.int .i64 v)).setCell ⟨b, 144 + (i * 24 + j), none⟩ (.bool true)) b := by
  obtain ⟨q0, v0, a0, a1, -⟩ := k.kn i j hi hj
  refine k.of_put hi hj hv ?_ ?_ (fun n x h1 h2 h => ?_) (fun j => by rw [World.frozen?_setCell, World.frozen?_setCell]) (by simp [World.setCell])
  · rw [World.cell?_setCell_other _ _ _ _ (by simp <;> omega)]
    exact World.cell?_setCell_same _ _ _ a1
  · exact World.cell?_setCell_same _ _ _ ((World.cell?_setCell_other _ _ _ _ (by simp <;> omega)).trans a0)
  · rw [World.cell?_setCell_other _ _ _ _ (by simp <;> omega), World.cell?_setCell_other _ _ _ _ (by simp <;> omega)]
    exact h
theorem PR.put2 {w : World} {b : Nat} (k : PR w b) {i j : Nat} (hi : i < 24) (hj : j < 24) {v : Int} (hv : v = nm (low (mul (small i) (small j)))) : PR ((w.setCell ⟨b, 144 + (i * 24 + j), none⟩ (.bool true)).setCell ⟨b, 720 + (i * 24 + j), none⟩ (.int .i64 v)) b := by
  obtain ⟨q0, v0, a0, a1, -⟩ := k.kn i j hi hj
  refine k.of_put hi hj hv ?_ ?_ (fun n x h1 h2 h => ?_) (fun j => by rw [World.frozen?_setCell, World.frozen?_setCell]) (by simp [World.setCell])
  · exact World.cell?_setCell_same _ _ _ ((World.cell?_setCell_other _ _ _ _ (by simp <;> omega)).trans a1)
  · rw [World.cell?_setCell_other _ _ _ _ (by simp <;> omega)]
    exact World.cell?_setCell_same _ _ _ a0
  · rw [World.cell?_setCell_other _ _ _ _ (by simp <;> omega), World.cell?_setCell_other _ _ _ _ (by simp <;> omega)]
    exact h
/-- where the steps from each site lead -/
def NX (a b c : Int) (w : World) (g : Nat) (N : Nat) : Prop := ∀ s : Nat, s < N → ∀ t : Nat, t < 7 → t ≠ 3 → w.cell? ⟨g, s * 7 + t, none⟩ = some (.int .i64 (nx a b c s ((t : Int) - 3)))
theorem NX.grown {a b c : Int} {w w1 : World} {g N : Nat} {row : Option Nat} (k : NX a b c w g N) (hg : w.grownBy w1 row) (hne : some g ≠ row) : NX a b c w1 g N := fun s hs t ht h3 => hg.cell (k s hs t ht h3) hne
theorem NX.later {a b c : Int} {w w1 : World} {g N : Nat} (k : NX a b c w g N) (hb : Below w.heap.size w w1) : NX a b c w1 g N := k.grown (row := none) (grown_ofB hb) (by simp)
theorem NX.lt {a b c : Int} {w : World} {g N : Nat} (k : NX a b c w g N) (h : 0 < N) : g < w.heap.size := World.block_lt_of_cell? w _ (k 0 h 0 (by omega) (by omega))
/-- a course without its momenta: its cells, the blocks that it leads to, and what lies there -/
structure CO (a b c : Int) (n N : Nat) (w : World) (m B gl gx gp kl kx : Nat) (L : List Q) : Prop where
  z0 : w.cell? ⟨B, 0, none⟩ = some (.int .i64 a)
  z1 : w.cell? ⟨B, 1, none⟩ = some (.int .i64 b)
  z2 : w.cell? ⟨B, 2, none⟩ = some (.int .i64 c)
  cl : w.cell? ⟨B, 3, none⟩ = some (.slice (some ⟨gl, 0, none⟩) n kl)
  cx : w.cell? ⟨B, 5, none⟩ = some (.slice (some ⟨gx, 0, none⟩) N kx)
  cp : w.cell? ⟨B, 6, none⟩ = some (.pointer (some ⟨gp, 0, none⟩))
  fb : ∀ j, w.frozen? ⟨B, j, none⟩ = false
  li : IBox w gl (L.map nm)
  nx : NX a b c w gx N
  pr : PR w gp
  ml : m ≤ gl
  mx : m ≤ gx
  mp : m ≤ gp
  mb : m ≤ B
  d1 : gl ≠ gp
  d2 : gx ≠ gp
  d3 : B ≠ gp
  d4 : gx ≠ gl
  d5 : B ≠ gl
  lb : B < w.heap.size
theorem CO.far {a b c : Int} {n N : Nat} {w w1 : World} {m B gl gx gp kl kx : Nat} {L : List Q} {row : Option Nat} (k : CO a b c n N w m B gl gx gp kl kx L) (hg : w.grownBy w1 row) (h1 : some B ≠ row) (h2 : some gl ≠ row) (h3 : some gx ≠ row) (h4 : some gp ≠ row) : CO a b c n N w1 m B gl gx gp kl kx L :=
  ⟨hg.cell k.z0 h1, hg.cell k.z1 h1, hg.cell k.z2 h1, hg.cell k.cl h1, hg.cell k.cx h1, hg.cell k.cp h1, fun j => (World.frozen?_of_block (a := ⟨B, j, none⟩) (hg.block B k.lb h1)).trans (k.fb j), k.li.grown hg h2, k.nx.grown hg h3, k.pr.grown hg h4, k.ml, k.mx, k.mp, k.mb, k.d1, k.d2, k.d3, k.d4, k.d5, Nat.lt_of_lt_of_le k.lb hg.size⟩
theorem CO.later {a b c : Int} {n N : Nat} {w w1 : World} {m B gl gx gp kl kx : Nat} {L : List Q} (k : CO a b c n N w m B gl gx gp kl kx L) (hb : Below w.heap.size w w1) : CO a b c n N w1 m B gl gx gp kl kx L :=
  k.far (row := none) (grown_ofB hb) (by simp) (by simp) (by simp) (by simp)
/-- the table has been written -/
theorem CO.touch {a b c : Int} {n N : Nat} {w w1 : World} {m B gl gx gp kl kx : Nat} {L : List Q} (k : CO a b c n N w m B gl gx gp kl kx L) (hg : w.grownBy w1 (some gp)) (hp : PR w1 gp) : CO a b c n N w1 m B gl gx gp kl kx L :=
  ⟨hg.cell k.z0 (by simp [k.d3]), hg.cell k.z1 (by simp [k.d3]), hg.cell k.z2 (by simp [k.d3]), hg.cell k.cl (by simp [k.d3]), hg.cell k.cx (by simp [k.d3]), hg.cell k.cp (by simp [k.d3]), fun j => (World.frozen?_of_block (a := ⟨B, j, none⟩) (hg.block B k.lb (by simp [k.d3]))).trans (k.fb j), k.li.grown hg (by simp [k.d1]), k.nx.grown hg (by simp [k.d2]), hp, k.ml, k.mx, k.mp, k.mb, k.d1, k.d2, k.d3, k.d4, k.d5, Nat.lt_of_lt_of_le k.lb hg.size⟩
/-- a link has been written -/
theorem CO.link {a b c : Int} {n N : Nat} {w : World} {m B gl gx gp kl kx : Nat} {L : List Q} (k : CO a b c n N w m B gl gx gp kl kx L) (i : Nat) (hi : i < L.length) (x : Q) : CO a b c n N (w.setCell ⟨gl, i, none⟩ (.int .i64 (nm x))) m B gl gx gp kl kx (L.set i x) := by
  have hg := grown_setCell w ⟨gl, i, none⟩ (.int .i64 (nm x))
  refine ⟨hg.cell k.z0 (by simp [k.d5]), hg.cell k.z1 (by simp [k.d5]), hg.cell k.z2 (by simp [k.d5]), hg.cell k.cl (by simp [k.d5]), hg.cell k.cx (by simp [k.d5]), hg.cell k.cp (by simp [k.d5]), fun j => (World.frozen?_of_block (a := ⟨B, j, none⟩) (hg.block B k.lb (by simp [k.d5]))).trans (k.fb j), ?_, k.nx.grown hg (by simp [k.d4]), k.pr.grown hg (by simp [Ne.symm k.d1]), k.ml, k.mx, k.mp, k.mb, k.d1, k.d2, k.d3, k.d4, k.d5, Nat.lt_of_lt_of_le k.lb hg.size⟩
  rw [List.map_set]
  exact k.li.put i (by rw [List.length_map]; exact hi) (nm x)
/-- the momenta of a course -/
structure CM (n : Nat) (w : World) (m B gl gx gp gm km : Nat) (l : List Int) : Prop where
  cm : w.cell? ⟨B, 4, none⟩ = some (.slice (some ⟨gm, 0, none⟩) n km)
  mi : IBox w gm l
  mm : m ≤ gm
  e1 : gm ≠ gp
  e2 : gm ≠ gl
  e3 : gm ≠ gx
  e4 : gm ≠ B
theorem CM.far {n : Nat} {w w1 : World} {m B gl gx gp gm km : Nat} {l : List Int} {row : Option Nat} (k : CM n w m B gl gx gp gm km l) (hg : w.grownBy w1 row) (h1 : some B ≠ row) (h2 : some gm ≠ row) : CM n w1 m B gl gx gp gm km l := ⟨hg.cell k.cm h1, k.mi.grown hg h2, k.mm, k.e1, k.e2, k.e3, k.e4⟩
theorem CM.later {n : Nat} {w w1 : World} {m B gl gx gp gm km : Nat} {l : List Int} (k : CM n w m B gl gx gp gm km l) (hb : Below w.heap.size w w1) : CM n w1 m B gl gx gp gm km l := k.far (row := none) (grown_ofB hb) (by simp) (by simp)
theorem CM.put {n : Nat} {w : World} {m B gl gx gp gm km : Nat} {l : List Int} (k : CM n w m B gl gx gp gm km l) (i : Nat) (hi : i < l.length) (x : Int) : CM n (w.setCell ⟨gm, i, none⟩ (.int .i64 x)) m B gl gx gp gm km (l.set i x) :=
  ⟨(grown_setCell w ⟨gm, i, none⟩ (.int .i64 x)).cell k.cm (by simp [Ne.symm k.e4]), k.mi.put i hi x, k.mm, k.e1, k.e2, k.e3, k.e4⟩
/-- the number of a unit that has one -/
theorem numR_nm {x : Q} (h : IsS x) : NumR x (nm x) true := by
  obtain ⟨k, hk, e, rfl⟩ := h.nmN
  exact .inl ⟨k, hk, rfl, fun j hj he => by have := small_inj j (by omega) k hk he; omega, e, rfl⟩
end Go.Proofs.Ytilbhcjnkmeecaa
