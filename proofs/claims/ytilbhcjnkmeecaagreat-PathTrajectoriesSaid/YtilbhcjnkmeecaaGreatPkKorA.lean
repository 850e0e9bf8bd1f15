/- The memory of a trajectory: a table of products, links and momenta as numbers, neighbours; how it is kept.
Conditions: those written at each theorem. -/
import Derived.Test.YtilbhcjnkmeecaaGreatPkKickB
import Derived.Test.YtilbhcjnkmeecaaGreatPkKdM
import Derived.Test.YtilbhcjnkmeecaaGreatPkTabB
import Derived.Maps.Range
import Derived.Maps.AppendAt
import Derived.Test.YtilbhcjnkmeecaaGreatPkNumber
import Derived.Test.YtilbhcjnkmeecaaGreatPkSmall
import Derived.Test.YtilbhcjnkmeecaaGreatPkQuatB
import Derived.Test.YtilbhcjnkmeecaaGreatPkTorA
import Derived.Test.YtilbhcjnkmeecaaGreatPkNumC
import Derived.Test.YtilbhcjnkmeecaaGreatPkCopyC
import Derived.Deep.RegionLaw
namespace Go.Proofs.YtilbhcjnkmeecaaGreat
set_option linter.unusedVariables false
set_option linter.unusedSimpArgs false
set_option maxRecDepth 1000000
open Go.RowKit
open Um Tm Cm Km

theorem grown_ofB {w w1 : World} {row : Option Nat} (h : Below w.heap.size w w1) : w.grownBy w1 row := ⟨h.os, h.tape, h.output, h.size, fun k hk _ => h.block k hk⟩
/-- the table of products in a block -/
structure PR (w : World) (b : Nat) : Prop where
  un : ∀ i : Nat, i < 24 → w.cell? ⟨b, i * 5, none⟩ = some (.int .i64 (small i).a) ∧ w.cell? ⟨b, i * 5 + 1, none⟩ = some (.int .i64 (small i).b) ∧ w.cell? ⟨b, i * 5 + 2, none⟩ = some (.int .i64 (small i).c) ∧ w.cell? ⟨b, i * 5 + 3, none⟩ = some (.int .i64 (small i).d) ∧ w.cell? ⟨b, i * 5 + 4, none⟩ = some (.int .i64 (small i).n)
  iv : ∀ i : Nat, i < 24 → w.cell? ⟨b, 120 + i, none⟩ = some (.int .i64 (nm (bar (small i))))
  kn : ∀ i j : Nat, i < 24 → j < 24 → ∃ (q : Bool) (v : Int), w.cell? ⟨b, 144 + (i * 24 + j), none⟩ = some (.bool q) ∧ w.cell? ⟨b, 720 + (i * 24 + j), none⟩ = some (.int .i64 v) ∧ (q = true → v = nm (low (mul (small i) (small j))))
  free : ∀ j, w.frozen? ⟨b, j, none⟩ = false
  lt : b < w.heap.size
theorem PR.grown {w w1 : World} {b : Nat} {row : Option Nat} (k : PR w b) (hg : w.grownBy w1 row) (hne : some b ≠ row) : PR w1 b :=
  ⟨fun i hi => by
    obtain ⟨h0, h1, h2, h3, h4⟩ := k.un i hi
    exact ⟨hg.cell h0 hne, hg.cell h1 hne, hg.cell h2 hne, hg.cell h3 hne, hg.cell h4 hne⟩,
   fun i hi => hg.cell (k.iv i hi) hne,
   fun i j hi hj => by
    obtain ⟨q, v, h1, h2, h3⟩ := k.kn i j hi hj
    exact ⟨q, v, hg.cell h1 hne, hg.cell h2 hne, h3⟩,
   fun j => (World.frozen?_of_block (a := ⟨b, j, none⟩) (hg.block b k.lt hne)).trans (k.free j), Nat.lt_of_lt_of_le k.lt hg.size⟩
theorem PR.later {w w1 : World} {b : Nat} (k : PR w b) (hb : Below w.heap.size w w1) : PR w1 b := k.grown (row := none) (grown_ofB hb) (by simp)
theorem nat24 {i j k l : Nat} (hj : j < 24) (hl : l < 24) (h : i * 24 + j = k * 24 + l) : i = k ∧ j = l := by omega
/-- a product becomes known -/
theorem PR.of_put {w w1 : World} {b : Nat} (k : PR w b) {i j : Nat} (hi : i < 24) (hj : j < 24) {v : Int} (hv : v = nm (low (mul (small i) (small j)))) (h1 : w1.cell? ⟨b, 720 + (i * 24 + j), none⟩ = some (.int .i64 v)) (h2 : w1.cell? ⟨b, 144 + (i * 24 + j), none⟩ = some (.bool true)) (o : ∀ (n : Nat) (x : Value), n ≠ 720 + (i * 24 + j) → n ≠ 144 + (i * 24 + j) → w.cell? ⟨b, n, none⟩ = some x → w1.cell? ⟨b, n, none⟩ = some x) (hf : ∀ j, w1.frozen? ⟨b, j, none⟩ = w.frozen? ⟨b, j, none⟩) (hl : w1.heap.size = w.heap.size) : PR w1 b := by
  refine ⟨fun i' hi' => ?_, fun i' hi' => o _ _ (by omega) (by omega) (k.iv i' hi'), fun i' j' hi' hj' => ?_, fun j' => (hf j').trans (k.free j'), by rw [hl]; exact k.lt⟩
  · obtain ⟨h0, h1, h2, h3, h4⟩ := k.un i' hi'
    exact ⟨o _ _ (by omega) (by omega) h0, o _ _ (by omega) (by omega) h1, o _ _ (by omega) (by omega) h2, o _ _ (by omega) (by omega) h3, o _ _ (by omega) (by omega) h4⟩
  · by_cases he : i' = i ∧ j' = j
    · obtain ⟨rfl, rfl⟩ := he
      exact ⟨true, v, h2, h1, fun _ => hv⟩
    · obtain ⟨q, u, b0, b1, b2⟩ := k.kn i' j' hi' hj'
      have hne : i' * 24 + j' ≠ i * 24 + j := fun h => he (nat24 hj' hj h)
      exact ⟨q, u, o _ _ (by omega) (by omega) b0, o _ _ (by omega) (by omega) b1, b2⟩
theorem PR.put {w : World} {b : Nat} (k : PR w b) {i j : Nat} (hi : i < 24) (hj : j < 24) {v : Int} (hv : v = nm (low (mul (small i) (small j)))) : PR ((w.setCell ⟨b, 720 + (i * 24 + j), none⟩ (.int .i64 v)).setCell ⟨b, 144 + (i * 24 + j), none⟩ (.bool true)) b := by
  obtain ⟨q0, v0, a0, a1, -⟩ := k.kn i j hi hj
  refine k.of_put hi hj hv ?_ ?_ (fun n x h1 h2 h => ?_) (fun j => by rw [World.frozen?_setCell, World.frozen?_setCell]) (by simp [World.setCell])
  · rw [World.cell?_setCell_other _ _ _ _ (by simp <;> omega)]
    exact World.cell?_setCell_same _ _ _ a1
  · exact World.cell?_setCell_same _ _ _ ((World.cell?_setCell_other _ _ _ _ (by simp <;> omega)).trans a0)
  · rw [World.cell?_setCell_other _ _ _ _ (by simp <;> omega), World.cell?_setCell_other _ _ _ _ (by simp <;> omega)]
    exact h
theorem PR.put2 {w : World} {b : Nat} (k : PR w b) {i j : Nat} (hi : i < 24) (hj : j < 24) {v : Int} (hv : v = nm (low (mul (small i) (small j)))) : PR ((w.setCell ⟨b, 144 + (i * 24 + j), none⟩ (.bool true)).setCell ⟨b, 720 + (i * 24 + j), none⟩ (.int .i64 v)) b := by
  obtain ⟨q0, v0, a0, a1, -⟩ := k.kn i j hi hj
  refine k.of_put hi hj hv ?_ ?_ (fun n x h1 h2 h => ?_) (fun j => by rw [World.frozen?_setCell, World.frozen?_setCell]) (by simp [World.setCell])
  · exact World.cell?_setCell_same _ _ _ ((World.cell?_setCell_other _ _ _ _ (by simp <;> omega)).trans a1)
  · rw [World.cell?_setCell_other _ _ _ _ (by simp <;> omega)]
    exact World.cell?_setCell_same _ _ _ a0
  · rw [World.cell?_setCell_other _ _ _ _ (by simp <;> omega), World.cell?_setCell_other _ _ _ _ (by simp <;> omega)]
    exact h
/-- where the steps from each site lead -/
def NX (a b c : Int) (w : World) (g : Nat) (N : Nat) : Prop := ∀ s : Nat, s < N → ∀ t : Nat, t < 7 → t ≠ 3 → w.cell? ⟨g, s * 7 + t, none⟩ = some (.int .i64 (nx a b c s ((t : Int) - 3)))
theorem NX.grown {a b c : Int} {w w1 : World} {g N : Nat} {row : Option Nat} (k : NX a b c w g N) (hg : w.grownBy w1 row) (hne : some g ≠ row) : NX a b c w1 g N := fun s hs t ht h3 => hg.cell (k s hs t ht h3) hne
theorem NX.later {a b c : Int} {w w1 : World} {g N : Nat} (k : NX a b c w g N) (hb : Below w.heap.size w w1) : NX a b c w1 g N := k.grown (row := none) (grown_ofB hb) (by simp)
theorem NX.lt {a b c : Int} {w : World} {g N : Nat} (k : NX a b c w g N) (h : 0 < N) : g < w.heap.size := World.block_lt_of_cell? w _ (k 0 h 0 (by omega) (by omega))
/-- a course without its momenta: its cells, the blocks that it leads to, and what lies there -/
structure CO (a b c : Int) (n N : Nat) (w : World) (m B gl gx gp kl kx : Nat) (L : List Q) : Prop where
  z0 : w.cell? ⟨B, 0, none⟩ = some (.int .i64 a)
  z1 : w.cell? ⟨B, 1, none⟩ = some (.int .i64 b)
  z2 : w.cell? ⟨B, 2, none⟩ = some (.int .i64 c)
  cl : w.cell? ⟨B, 3, none⟩ = some (.slice (some ⟨gl, 0, none⟩) n kl)
  cx : w.cell? ⟨B, 5, none⟩ = some (.slice (some ⟨gx, 0, none⟩) N kx)
  cp : w.cell? ⟨B, 6, none⟩ = some (.pointer (some ⟨gp, 0, none⟩))
  fb : ∀ j, w.frozen? ⟨B, j, none⟩ = false
  li : IBox w gl (L.map nm)
  nx : NX a b c w gx N
  pr : PR w gp
  ml : m ≤ gl
  mx : m ≤ gx
  mp : m ≤ gp
  mb : m ≤ B
  d1 : gl ≠ gp
  d2 : gx ≠ gp
  d3 : B ≠ gp
  d4 : gx ≠ gl
  d5 : B ≠ gl
  lb : B < w.heap.size
theorem CO.far {a b c : Int} {n N : Nat} {w w1 : World} {m B gl gx gp kl kx : Nat} {L : List Q} {row : Option Nat} (k : CO a b c n N w m B gl gx gp kl kx L) (hg : w.grownBy w1 row) (h1 : some B ≠ row) (h2 : some gl ≠ row) (h3 : some gx ≠ row) (h4 : some gp ≠ row) : CO a b c n N w1 m B gl gx gp kl kx L :=
  ⟨hg.cell k.z0 h1, hg.cell k.z1 h1, hg.cell k.z2 h1, hg.cell k.cl h1, hg.cell k.cx h1, hg.cell k.cp h1, fun j => (World.frozen?_of_block (a := ⟨B, j, none⟩) (hg.block B k.lb h1)).trans (k.fb j), k.li.grown hg h2, k.nx.grown hg h3, k.pr.grown hg h4, k.ml, k.mx, k.mp, k.mb, k.d1, k.d2, k.d3, k.d4, k.d5, Nat.lt_of_lt_of_le k.lb hg.size⟩
theorem CO.later {a b c : Int} {n N : Nat} {w w1 : World} {m B gl gx gp kl kx : Nat} {L : List Q} (k : CO a b c n N w m B gl gx gp kl kx L) (hb : Below w.heap.size w w1) : CO a b c n N w1 m B gl gx gp kl kx L :=
  k.far (row := none) (grown_ofB hb) (by simp) (by simp) (by simp) (by simp)
/-- the table has been written -/
theorem CO.touch {a b c : Int} {n N : Nat} {w w1 : World} {m B gl gx gp kl kx : Nat} {L : List Q} (k : CO a b c n N w m B gl gx gp kl kx L) (hg : w.grownBy w1 (some gp)) (hp : PR w1 gp) : CO a b c n N w1 m B gl gx gp kl kx L :=
  ⟨hg.cell k.z0 (by simp [k.d3]), hg.cell k.z1 (by simp [k.d3]), hg.cell k.z2 (by simp [k.d3]), hg.cell k.cl (by simp [k.d3]), hg.cell k.cx (by simp [k.d3]), hg.cell k.cp (by simp [k.d3]), fun j => (World.frozen?_of_block (a := ⟨B, j, none⟩) (hg.block B k.lb (by simp [k.d3]))).trans (k.fb j), k.li.grown hg (by simp [k.d1]), k.nx.grown hg (by simp [k.d2]), hp, k.ml, k.mx, k.mp, k.mb, k.d1, k.d2, k.d3, k.d4, k.d5, Nat.lt_of_lt_of_le k.lb hg.size⟩
/-- a link has been written -/
theorem CO.link {a b c : Int} {n N : Nat} {w : World} {m B gl gx gp kl kx : Nat} {L : List Q} (k : CO a b c n N w m B gl gx gp kl kx L) (i : Nat) (hi : i < L.length) (x : Q) : CO a b c n N (w.setCell ⟨gl, i, none⟩ (.int .i64 (nm x))) m B gl gx gp kl kx (L.set i x) := by
  have hg := grown_setCell w ⟨gl, i, none⟩ (.int .i64 (nm x))
  refine ⟨hg.cell k.z0 (by simp [k.d5]), hg.cell k.z1 (by simp [k.d5]), hg.cell k.z2 (by simp [k.d5]), hg.cell k.cl (by simp [k.d5]), hg.cell k.cx (by simp [k.d5]), hg.cell k.cp (by simp [k.d5]), fun j => (World.frozen?_of_block (a := ⟨B, j, none⟩) (hg.block B k.lb (by simp [k.d5]))).trans (k.fb j), ?_, k.nx.grown hg (by simp [k.d4]), k.pr.grown hg (by simp [Ne.symm k.d1]), k.ml, k.mx, k.mp, k.mb, k.d1, k.d2, k.d3, k.d4, k.d5, Nat.lt_of_lt_of_le k.lb hg.size⟩
  rw [List.map_set]
  exact k.li.put i (by rw [List.length_map]; exact hi) (nm x)
/-- the momenta of a course -/
structure CM (n : Nat) (w : World) (m B gl gx gp gm km : Nat) (l : List Int) : Prop where
  cm : w.cell? ⟨B, 4, none⟩ = some (.slice (some ⟨gm, 0, none⟩) n km)
  mi : IBox w gm l
  mm : m ≤ gm
  e1 : gm ≠ gp
  e2 : gm ≠ gl
  e3 : gm ≠ gx
  e4 : gm ≠ B
theorem CM.far {n : Nat} {w w1 : World} {m B gl gx gp gm km : Nat} {l : List Int} {row : Option Nat} (k : CM n w m B gl gx gp gm km l) (hg : w.grownBy w1 row) (h1 : some B ≠ row) (h2 : some gm ≠ row) : CM n w1 m B gl gx gp gm km l := ⟨hg.cell k.cm h1, k.mi.grown hg h2, k.mm, k.e1, k.e2, k.e3, k.e4⟩
theorem CM.later {n : Nat} {w w1 : World} {m B gl gx gp gm km : Nat} {l : List Int} (k : CM n w m B gl gx gp gm km l) (hb : Below w.heap.size w w1) : CM n w1 m B gl gx gp gm km l := k.far (row := none) (grown_ofB hb) (by simp) (by simp)
theorem CM.put {n : Nat} {w : World} {m B gl gx gp gm km : Nat} {l : List Int} (k : CM n w m B gl gx gp gm km l) (i : Nat) (hi : i < l.length) (x : Int) : CM n (w.setCell ⟨gm, i, none⟩ (.int .i64 x)) m B gl gx gp gm km (l.set i x) :=
  ⟨(grown_setCell w ⟨gm, i, none⟩ (.int .i64 x)).cell k.cm (by simp [Ne.symm k.e4]), k.mi.put i hi x, k.mm, k.e1, k.e2, k.e3, k.e4⟩
/-- the number of a unit that has one -/
theorem numR_nm {x : Q} (h : IsS x) : NumR x (nm x) true := by
  obtain ⟨k, hk, e, rfl⟩ := h.nmN
  exact .inl ⟨k, hk, rfl, fun j hj he => by have := small_inj j (by omega) k hk he; omega, e, rfl⟩
end Go.Proofs.YtilbhcjnkmeecaaGreat

/- Numbers of small units, and the table of their products, as the program makes and asks them.
Conditions: those written at each theorem. -/
namespace Go.Proofs.YtilbhcjnkmeecaaGreat
set_option linter.unusedVariables false
set_option linter.unusedSimpArgs false
set_option maxRecDepth 1000000
open Go.RowKit
open Um Tm Cm Km

set_option maxHeartbeats 800000 in
theorem numberOf_any (x : Q) (w : World) (hx : IsS x) : Calls Tryz.prog 63 #[.agg #[.int .i64 x.a, .int .i64 x.b, .int .i64 x.c, .int .i64 x.d, .int .i64 x.n]] w fun e w' => e = .returned (.int .i64 (nm x)) ∧ Below w.heap.size w w' := by
  have c1 := fun W : World => number_ok x (nm x) true W hx.V (numR_nm hx)
  clear hx
  generalize nm x = n at *
  go_enter Tryz.func63, Tryz.ntmps63
  go_wp2_with (first | ((with_reducible refine (c1 _).mono ?_); clear c1; rintro e w1 ⟨rfl, hw1⟩; have hc1 := Tail.cells hw1; have s1 := hw1.size; (try simp at s1); (try have z1_0 : w.heap.size < w1.heap.size := (by omega)); clear s1))
  go_ret
  exact ⟨rfl, by repeat (first | (with_reducible exact Below.refl _ _) | (with_reducible refine Below.setCell ?_ ?_ _) | (with_reducible refine Below.drew ?_) | (with_reducible refine Below.alloc ?_ ?_ _) | (with_reducible refine Below.trans ?_ (Below.mono hw1 ?_)) | (with_reducible exact hw1.size) | omega | (simp <;> omega) | (simp <;> (have s := hw1.size; omega)) | (have s0 := hw1.size; (try simp at s0); (try simp); omega))⟩
set_option maxHeartbeats 3200000 in
theorem times_known (b i j : Nat) (v : Int) (w : World) (k : w.cell? ⟨b, 144 + (i * 24 + j), none⟩ = some (.bool true)) (k2 : w.cell? ⟨b, 720 + (i * 24 + j), none⟩ = some (.int .i64 v)) (hi : i < 24) (hj : j < 24) :
    Calls Tryz.prog 62 #[.pointer (some ⟨b, 0, none⟩), .int .i64 i, .int .i64 j] w fun e w' => e = .returned (.int .i64 v) ∧ w = w' := by
  have i1 : (i : Int) < 24 := by omega
  have j1 : (j : Int) < 24 := by omega
  rw [← Nat.add_assoc] at k k2
  go_enter Tryz.func62, Tryz.ntmps62
  go_wp2
  go_ret
  exact ⟨rfl, rfl⟩
theorem held_below {W W1 : World} {b i : Nat} {v : Value} (h : Below W.heap.size W W1) (hc : W.cell? ⟨b, i, none⟩ = some v)   : W1.cell? ⟨b, i, none⟩ = some v := (h.cell (World.block_lt_of_cell? W _ hc)).trans hc
theorem small_one (i : Nat) (hi : i < 24) : IsS (small i) := ⟨i, hi, rfl⟩
theorem mul_small (i j : Nat) (hi : i < 24) (hj : j < 24) (w : World) : Calls Tryz.prog 83 #[.agg #[.int .i64 (small i).a, .int .i64 (small i).b, .int .i64 (small i).c, .int .i64 (small i).d, .int .i64 (small i).n], .agg #[.int .i64 (small j).a, .int .i64 (small j).b, .int .i64 (small j).c, .int .i64 (small j).d, .int .i64 (small j).n]] w fun e w' => e = .returned (.tuple #[.agg #[.int .i64 (low (mul (small i) (small j))).a, .int .i64 (low (mul (small i) (small j))).b, .int .i64 (low (mul (small i) (small j))).c, .int .i64 (low (mul (small i) (small j))).d, .int .i64 (low (mul (small i) (small j))).n], .int .i64 0]) ∧ Below w.heap.size w w' := by
  have h := (small_one i hi).mul (small_one j hj)
  have := h.tw.2.2.2.1
  exact mul_good _ _ _ 0 w (small_one i hi).V (small_one j hj).V (.inl ⟨by omega, rfl, rfl⟩)
set_option maxHeartbeats 6400000 in
theorem times_new (b i j : Nat) (w : World) (hp : PR w b) (hi : i < 24) (hj : j < 24) (k : w.cell? ⟨b, 144 + (i * 24 + j), none⟩ = some (.bool false)) :
    Calls Tryz.prog 62 #[.pointer (some ⟨b, 0, none⟩), .int .i64 i, .int .i64 j] w fun e w' => e = .returned (.int .i64 (nm (low (mul (small i) (small j))))) ∧ w.grownBy w' (some b) ∧ PR w' b := by
  have HP := Lib.hid hp
  have i1 : (i : Int) < 24 := by omega
  have j1 : (j : Int) < 24 := by omega
  have c1 := mul_small i j hi hj
  have c2 := fun W : World => numberOf_any _ W ((small_one i hi).mul (small_one j hj))
  obtain ⟨a0, a1, a2, a3, a4⟩ := hp.un i hi
  obtain ⟨b0, b1, b2, b3, b4⟩ := hp.un j hj
  have lb := hp.lt
  clear hp
  obtain ⟨p, hp'⟩ : ∃ p, low (mul (small i) (small j)) = p := ⟨_, rfl⟩
  rw [hp'] at c1 c2 ⊢
  have hP := Lib.hid hp'
  clear hp'
  generalize hx : small (i : Int) = x at *
  generalize hy : small (j : Int) = y at *
  rw [← Nat.add_assoc] at k
  go_enter Tryz.func62, Tryz.ntmps62
  go_wp2
  go_region_held3 (fun w' => w'.cell? ⟨b, i * 5, none⟩ = some (.int .i64 x.a) ∧ w'.cell? ⟨b, i * 5 + 1, none⟩ = some (.int .i64 x.b) ∧ w'.cell? ⟨b, i * 5 + 2, none⟩ = some (.int .i64 x.c) ∧ w'.cell? ⟨b, i * 5 + 3, none⟩ = some (.int .i64 x.d) ∧ w'.cell? ⟨b, i * 5 + 4, none⟩ = some (.int .i64 x.n) ∧ w'.cell? ⟨b, j * 5, none⟩ = some (.int .i64 y.a) ∧ w'.cell? ⟨b, j * 5 + 1, none⟩ = some (.int .i64 y.b) ∧ w'.cell? ⟨b, j * 5 + 2, none⟩ = some (.int .i64 y.c) ∧ w'.cell? ⟨b, j * 5 + 3, none⟩ = some (.int .i64 y.d) ∧ w'.cell? ⟨b, j * 5 + 4, none⟩ = some (.int .i64 y.n))
    (first
      | go_keep
      | (exact ⟨held_below (W := w) (by repeat (first | (with_reducible exact Below.refl _ _) | (with_reducible refine Below.setCell ?_ ?_ _) | (with_reducible refine Below.drew ?_) | (with_reducible refine Below.alloc ?_ ?_ _) | (with_reducible refine Below.trans ?_ (Below.mono hw1 ?_)) | (with_reducible exact hw1.size) | omega | (simp <;> omega) | (simp <;> (have s := hw1.size; omega)) | (have s0 := hw1.size; (try simp at s0); (try simp); omega))) a0, held_below (W := w) (by repeat (first | (with_reducible exact Below.refl _ _) | (with_reducible refine Below.setCell ?_ ?_ _) | (with_reducible refine Below.drew ?_) | (with_reducible refine Below.alloc ?_ ?_ _) | (with_reducible refine Below.trans ?_ (Below.mono hw1 ?_)) | (with_reducible exact hw1.size) | omega | (simp <;> omega) | (simp <;> (have s := hw1.size; omega)) | (have s0 := hw1.size; (try simp at s0); (try simp); omega))) a1, held_below (W := w) (by repeat (first | (with_reducible exact Below.refl _ _) | (with_reducible refine Below.setCell ?_ ?_ _) | (with_reducible refine Below.drew ?_) | (with_reducible refine Below.alloc ?_ ?_ _) | (with_reducible refine Below.trans ?_ (Below.mono hw1 ?_)) | (with_reducible exact hw1.size) | omega | (simp <;> omega) | (simp <;> (have s := hw1.size; omega)) | (have s0 := hw1.size; (try simp at s0); (try simp); omega))) a2, held_below (W := w) (by repeat (first | (with_reducible exact Below.refl _ _) | (with_reducible refine Below.setCell ?_ ?_ _) | (with_reducible refine Below.drew ?_) | (with_reducible refine Below.alloc ?_ ?_ _) | (with_reducible refine Below.trans ?_ (Below.mono hw1 ?_)) | (with_reducible exact hw1.size) | omega | (simp <;> omega) | (simp <;> (have s := hw1.size; omega)) | (have s0 := hw1.size; (try simp at s0); (try simp); omega))) a3, held_below (W := w) (by repeat (first | (with_reducible exact Below.refl _ _) | (with_reducible refine Below.setCell ?_ ?_ _) | (with_reducible refine Below.drew ?_) | (with_reducible refine Below.alloc ?_ ?_ _) | (with_reducible refine Below.trans ?_ (Below.mono hw1 ?_)) | (with_reducible exact hw1.size) | omega | (simp <;> omega) | (simp <;> (have s := hw1.size; omega)) | (have s0 := hw1.size; (try simp at s0); (try simp); omega))) a4, held_below (W := w) (by repeat (first | (with_reducible exact Below.refl _ _) | (with_reducible refine Below.setCell ?_ ?_ _) | (with_reducible refine Below.drew ?_) | (with_reducible refine Below.alloc ?_ ?_ _) | (with_reducible refine Below.trans ?_ (Below.mono hw1 ?_)) | (with_reducible exact hw1.size) | omega | (simp <;> omega) | (simp <;> (have s := hw1.size; omega)) | (have s0 := hw1.size; (try simp at s0); (try simp); omega))) b0, held_below (W := w) (by repeat (first | (with_reducible exact Below.refl _ _) | (with_reducible refine Below.setCell ?_ ?_ _) | (with_reducible refine Below.drew ?_) | (with_reducible refine Below.alloc ?_ ?_ _) | (with_reducible refine Below.trans ?_ (Below.mono hw1 ?_)) | (with_reducible exact hw1.size) | omega | (simp <;> omega) | (simp <;> (have s := hw1.size; omega)) | (have s0 := hw1.size; (try simp at s0); (try simp); omega))) b1, held_below (W := w) (by repeat (first | (with_reducible exact Below.refl _ _) | (with_reducible refine Below.setCell ?_ ?_ _) | (with_reducible refine Below.drew ?_) | (with_reducible refine Below.alloc ?_ ?_ _) | (with_reducible refine Below.trans ?_ (Below.mono hw1 ?_)) | (with_reducible exact hw1.size) | omega | (simp <;> omega) | (simp <;> (have s := hw1.size; omega)) | (have s0 := hw1.size; (try simp at s0); (try simp); omega))) b2, held_below (W := w) (by repeat (first | (with_reducible exact Below.refl _ _) | (with_reducible refine Below.setCell ?_ ?_ _) | (with_reducible refine Below.drew ?_) | (with_reducible refine Below.alloc ?_ ?_ _) | (with_reducible refine Below.trans ?_ (Below.mono hw1 ?_)) | (with_reducible exact hw1.size) | omega | (simp <;> omega) | (simp <;> (have s := hw1.size; omega)) | (have s0 := hw1.size; (try simp at s0); (try simp); omega))) b3, held_below (W := w) (by repeat (first | (with_reducible exact Below.refl _ _) | (with_reducible refine Below.setCell ?_ ?_ _) | (with_reducible refine Below.drew ?_) | (with_reducible refine Below.alloc ?_ ?_ _) | (with_reducible refine Below.trans ?_ (Below.mono hw1 ?_)) | (with_reducible exact hw1.size) | omega | (simp <;> omega) | (simp <;> (have s := hw1.size; omega)) | (have s0 := hw1.size; (try simp at s0); (try simp); omega))) b4⟩)
      | (exact ⟨held_below (W := w) (by repeat (first | (with_reducible exact Below.refl _ _) | (with_reducible refine Below.setCell ?_ ?_ _) | (with_reducible refine Below.drew ?_) | (with_reducible refine Below.alloc ?_ ?_ _) | omega | (simp <;> omega))) a0, held_below (W := w) (by repeat (first | (with_reducible exact Below.refl _ _) | (with_reducible refine Below.setCell ?_ ?_ _) | (with_reducible refine Below.drew ?_) | (with_reducible refine Below.alloc ?_ ?_ _) | omega | (simp <;> omega))) a1, held_below (W := w) (by repeat (first | (with_reducible exact Below.refl _ _) | (with_reducible refine Below.setCell ?_ ?_ _) | (with_reducible refine Below.drew ?_) | (with_reducible refine Below.alloc ?_ ?_ _) | omega | (simp <;> omega))) a2, held_below (W := w) (by repeat (first | (with_reducible exact Below.refl _ _) | (with_reducible refine Below.setCell ?_ ?_ _) | (with_reducible refine Below.drew ?_) | (with_reducible refine Below.alloc ?_ ?_ _) | omega | (simp <;> omega))) a3, held_below (W := w) (by repeat (first | (with_reducible exact Below.refl _ _) | (with_reducible refine Below.setCell ?_ ?_ _) | (with_reducible refine Below.drew ?_) | (with_reducible refine Below.alloc ?_ ?_ _) | omega | (simp <;> omega))) a4, held_below (W := w) (by repeat (first | (with_reducible exact Below.refl _ _) | (with_reducible refine Below.setCell ?_ ?_ _) | (with_reducible refine Below.drew ?_) | (with_reducible refine Below.alloc ?_ ?_ _) | omega | (simp <;> omega))) b0, held_below (W := w) (by repeat (first | (with_reducible exact Below.refl _ _) | (with_reducible refine Below.setCell ?_ ?_ _) | (with_reducible refine Below.drew ?_) | (with_reducible refine Below.alloc ?_ ?_ _) | omega | (simp <;> omega))) b1, held_below (W := w) (by repeat (first | (with_reducible exact Below.refl _ _) | (with_reducible refine Below.setCell ?_ ?_ _) | (with_reducible refine Below.drew ?_) | (with_reducible refine Below.alloc ?_ ?_ _) | omega | (simp <;> omega))) b2, held_below (W := w) (by repeat (first | (with_reducible exact Below.refl _ _) | (with_reducible refine Below.setCell ?_ ?_ _) | (with_reducible refine Below.drew ?_) | (with_reducible refine Below.alloc ?_ ?_ _) | omega | (simp <;> omega))) b3, held_below (W := w) (by repeat (first | (with_reducible exact Below.refl _ _) | (with_reducible refine Below.setCell ?_ ?_ _) | (with_reducible refine Below.drew ?_) | (with_reducible refine Below.alloc ?_ ?_ _) | omega | (simp <;> omega))) b4⟩))
    (((with_reducible refine (c1 _).mono ?_); rintro e w1 ⟨rfl, hw1⟩; have hc1 := Tail.cells hw1))
  · have y0 : (w1.alloc (.cells #[.int .i64 p.a, .int .i64 p.b, .int .i64 p.c, .int .i64 p.d, .int .i64 p.n] 40)).cell? ⟨w1.heap.size, 0, none⟩ = some (.int .i64 p.a) := by simp [go_sem]
    have y1 : (w1.alloc (.cells #[.int .i64 p.a, .int .i64 p.b, .int .i64 p.c, .int .i64 p.d, .int .i64 p.n] 40)).cell? ⟨w1.heap.size, 1, none⟩ = some (.int .i64 p.b) := by simp [go_sem]
    have y2 : (w1.alloc (.cells #[.int .i64 p.a, .int .i64 p.b, .int .i64 p.c, .int .i64 p.d, .int .i64 p.n] 40)).cell? ⟨w1.heap.size, 2, none⟩ = some (.int .i64 p.c) := by simp [go_sem]
    have y3 : (w1.alloc (.cells #[.int .i64 p.a, .int .i64 p.b, .int .i64 p.c, .int .i64 p.d, .int .i64 p.n] 40)).cell? ⟨w1.heap.size, 3, none⟩ = some (.int .i64 p.d) := by simp [go_sem]
    have y4 : (w1.alloc (.cells #[.int .i64 p.a, .int .i64 p.b, .int .i64 p.c, .int .i64 p.d, .int .i64 p.n] 40)).cell? ⟨w1.heap.size, 4, none⟩ = some (.int .i64 p.n) := by simp [go_sem]
    have bW : Below w.heap.size w (w1.alloc (.cells #[.int .i64 p.a, .int .i64 p.b, .int .i64 p.c, .int .i64 p.d, .int .i64 p.n] 40)) := by repeat (first | (with_reducible exact Below.refl _ _) | (with_reducible refine Below.setCell ?_ ?_ _) | (with_reducible refine Below.drew ?_) | (with_reducible refine Below.alloc ?_ ?_ _) | (with_reducible refine Below.trans ?_ (Below.mono hw1 ?_)) | (with_reducible exact hw1.size) | omega | (simp <;> omega) | (simp <;> (have s := hw1.size; omega)) | (have s0 := hw1.size; (try simp at s0); (try simp); omega))
    have zg : w.heap.size ≤ w1.heap.size := hw1.size
    have zl : w1.heap.size < (w1.alloc (.cells #[.int .i64 p.a, .int .i64 p.b, .int .i64 p.c, .int .i64 p.d, .int .i64 p.n] 40)).heap.size := by simp
    generalize w1.alloc (.cells #[.int .i64 p.a, .int .i64 p.b, .int .i64 p.c, .int .i64 p.d, .int .i64 p.n] 40) = W at *
    generalize w1.heap.size = g at *
    have PW := Lib.hid (HP.out.later bW)
    have kW := held_below bW k
    obtain ⟨q0, v0, -, kv, -⟩ := PW.out.kn i j hi hj
    rw [← Nat.add_assoc] at kv
    have lbW := PW.out.lt
    have fW := PW.out.free
    have hgb : g ≠ b := by omega
    have hbg : b ≠ g := by omega
    clear k hw1 hc1 c1 HP a0 a1 a2 a3 a4 b0 b1 b2 b3 b4
    go_wp2
    go_region_held3 (fun w' => w'.cell? ⟨g, 0, none⟩ = some (.int .i64 p.a) ∧ w'.cell? ⟨g, 1, none⟩ = some (.int .i64 p.b) ∧ w'.cell? ⟨g, 2, none⟩ = some (.int .i64 p.c) ∧ w'.cell? ⟨g, 3, none⟩ = some (.int .i64 p.d) ∧ w'.cell? ⟨g, 4, none⟩ = some (.int .i64 p.n))
      (first
        | go_keep
        | (exact ⟨held_below (W := W) (by repeat (first | (with_reducible exact Below.refl _ _) | (with_reducible refine Below.setCell ?_ ?_ _) | (with_reducible refine Below.drew ?_) | (with_reducible refine Below.alloc ?_ ?_ _) | (with_reducible refine Below.trans ?_ (Below.mono hw2 ?_)) | (with_reducible exact hw2.size) | omega | (simp <;> omega) | (simp <;> (have s := hw2.size; omega)) | (have s0 := hw2.size; (try simp at s0); (try simp); omega))) y0, held_below (W := W) (by repeat (first | (with_reducible exact Below.refl _ _) | (with_reducible refine Below.setCell ?_ ?_ _) | (with_reducible refine Below.drew ?_) | (with_reducible refine Below.alloc ?_ ?_ _) | (with_reducible refine Below.trans ?_ (Below.mono hw2 ?_)) | (with_reducible exact hw2.size) | omega | (simp <;> omega) | (simp <;> (have s := hw2.size; omega)) | (have s0 := hw2.size; (try simp at s0); (try simp); omega))) y1, held_below (W := W) (by repeat (first | (with_reducible exact Below.refl _ _) | (with_reducible refine Below.setCell ?_ ?_ _) | (with_reducible refine Below.drew ?_) | (with_reducible refine Below.alloc ?_ ?_ _) | (with_reducible refine Below.trans ?_ (Below.mono hw2 ?_)) | (with_reducible exact hw2.size) | omega | (simp <;> omega) | (simp <;> (have s := hw2.size; omega)) | (have s0 := hw2.size; (try simp at s0); (try simp); omega))) y2, held_below (W := W) (by repeat (first | (with_reducible exact Below.refl _ _) | (with_reducible refine Below.setCell ?_ ?_ _) | (with_reducible refine Below.drew ?_) | (with_reducible refine Below.alloc ?_ ?_ _) | (with_reducible refine Below.trans ?_ (Below.mono hw2 ?_)) | (with_reducible exact hw2.size) | omega | (simp <;> omega) | (simp <;> (have s := hw2.size; omega)) | (have s0 := hw2.size; (try simp at s0); (try simp); omega))) y3, held_below (W := W) (by repeat (first | (with_reducible exact Below.refl _ _) | (with_reducible refine Below.setCell ?_ ?_ _) | (with_reducible refine Below.drew ?_) | (with_reducible refine Below.alloc ?_ ?_ _) | (with_reducible refine Below.trans ?_ (Below.mono hw2 ?_)) | (with_reducible exact hw2.size) | omega | (simp <;> omega) | (simp <;> (have s := hw2.size; omega)) | (have s0 := hw2.size; (try simp at s0); (try simp); omega))) y4⟩)
        | (refine ⟨?_, ?_, ?_, ?_, ?_⟩ <;> ((repeat rw [World.cell?_setCell_other _ _ _ _ (by simp; exact fun h => absurd h hbg)]); first | exact held_below bw2 y0 | exact held_below bw2 y1 | exact held_below bw2 y2 | exact held_below bw2 y3 | exact held_below bw2 y4)))
      (((with_reducible refine (c2 _).mono ?_); rintro e w2 ⟨rfl, hw2⟩; have bw2 : Below W.heap.size W w2 := ⟨hw2.os, hw2.tape, hw2.output, hw2.size, hw2.block⟩; have xk := held_below (W := W) bw2 kv; have xi := held_below (W := W) bw2 kW; have xf : ∀ j, w2.frozen? ⟨b, j, none⟩ = false := fun j => (bw2.frozen (p := ⟨b, j, none⟩) lbW).trans (fW j)))
    have G1 : w.grownBy w2 (some b) := grown_ofB (by repeat (first | (with_reducible exact Below.refl _ _) | (with_reducible refine Below.setCell ?_ ?_ _) | (with_reducible refine Below.drew ?_) | (with_reducible refine Below.alloc ?_ ?_ _) | (with_reducible refine Below.trans ?_ (Below.mono bw2 ?_)) | (with_reducible refine Below.trans ?_ (Below.mono bW ?_)) | (with_reducible exact bw2.size) | (with_reducible exact bW.size) | omega | (simp <;> omega) | (simp <;> (have s := bw2.size; omega)) | (simp <;> (have s := bW.size; omega)) | (have s0 := bw2.size; (try simp at s0); have s1 := bW.size; (try simp at s1); (try simp); omega)))
    have P2 := Lib.hid (PW.out.later bw2)
    have lb2 := P2.out.lt
    clear hw2 y0 y1 y2 y3 y4
    go_wp2
    go_ret
    refine ⟨rfl, (G1.trans (grown_setCell _ ⟨b, _, none⟩ _)).trans (grown_setCell _ ⟨b, _, none⟩ _), ?_⟩
    have := P2.out.put hi hj (v := nm p) (by rw [hx, hy, hP.out])
    simpa only [← Nat.add_assoc] using this
  · have u0 : w1.cell? ⟨w.heap.size, 0, none⟩ = some (.int .i64 0) := (hw1.cell (p := ⟨w.heap.size, 0, none⟩) (by simp)).trans (by simp [go_sem])
    have u1 : w1.cell? ⟨w.heap.size, 1, none⟩ = some (.int .i64 0) := (hw1.cell (p := ⟨w.heap.size, 1, none⟩) (by simp)).trans (by simp [go_sem])
    have u2 : w1.cell? ⟨w.heap.size, 2, none⟩ = some (.int .i64 0) := (hw1.cell (p := ⟨w.heap.size, 2, none⟩) (by simp)).trans (by simp [go_sem])
    have u3 : w1.cell? ⟨w.heap.size, 3, none⟩ = some (.int .i64 0) := (hw1.cell (p := ⟨w.heap.size, 3, none⟩) (by simp)).trans (by simp [go_sem])
    have u4 : w1.cell? ⟨w.heap.size, 4, none⟩ = some (.int .i64 0) := (hw1.cell (p := ⟨w.heap.size, 4, none⟩) (by simp)).trans (by simp [go_sem])
    have zl1 : w.heap.size < w1.heap.size := World.block_lt_of_cell? w1 _ u0
    have y0 : (((((w1.setCell ⟨w.heap.size, 0, none⟩ (.int .i64 p.a)).setCell ⟨w.heap.size, 1, none⟩ (.int .i64 p.b)).setCell ⟨w.heap.size, 2, none⟩ (.int .i64 p.c)).setCell ⟨w.heap.size, 3, none⟩ (.int .i64 p.d)).setCell ⟨w.heap.size, 4, none⟩ (.int .i64 p.n)).cell? ⟨w.heap.size, 0, none⟩ = some (.int .i64 p.a) := by simp [go_sem, u0, u1, u2, u3, u4]
    have y1 : (((((w1.setCell ⟨w.heap.size, 0, none⟩ (.int .i64 p.a)).setCell ⟨w.heap.size, 1, none⟩ (.int .i64 p.b)).setCell ⟨w.heap.size, 2, none⟩ (.int .i64 p.c)).setCell ⟨w.heap.size, 3, none⟩ (.int .i64 p.d)).setCell ⟨w.heap.size, 4, none⟩ (.int .i64 p.n)).cell? ⟨w.heap.size, 1, none⟩ = some (.int .i64 p.b) := by simp [go_sem, u0, u1, u2, u3, u4]
    have y2 : (((((w1.setCell ⟨w.heap.size, 0, none⟩ (.int .i64 p.a)).setCell ⟨w.heap.size, 1, none⟩ (.int .i64 p.b)).setCell ⟨w.heap.size, 2, none⟩ (.int .i64 p.c)).setCell ⟨w.heap.size, 3, none⟩ (.int .i64 p.d)).setCell ⟨w.heap.size, 4, none⟩ (.int .i64 p.n)).cell? ⟨w.heap.size, 2, none⟩ = some (.int .i64 p.c) := by simp [go_sem, u0, u1, u2, u3, u4]
    have y3 : (((((w1.setCell ⟨w.heap.size, 0, none⟩ (.int .i64 p.a)).setCell ⟨w.heap.size, 1, none⟩ (.int .i64 p.b)).setCell ⟨w.heap.size, 2, none⟩ (.int .i64 p.c)).setCell ⟨w.heap.size, 3, none⟩ (.int .i64 p.d)).setCell ⟨w.heap.size, 4, none⟩ (.int .i64 p.n)).cell? ⟨w.heap.size, 3, none⟩ = some (.int .i64 p.d) := by simp [go_sem, u0, u1, u2, u3, u4]
    have y4 : (((((w1.setCell ⟨w.heap.size, 0, none⟩ (.int .i64 p.a)).setCell ⟨w.heap.size, 1, none⟩ (.int .i64 p.b)).setCell ⟨w.heap.size, 2, none⟩ (.int .i64 p.c)).setCell ⟨w.heap.size, 3, none⟩ (.int .i64 p.d)).setCell ⟨w.heap.size, 4, none⟩ (.int .i64 p.n)).cell? ⟨w.heap.size, 4, none⟩ = some (.int .i64 p.n) := by simp [go_sem, u0, u1, u2, u3, u4]
    have bW : Below w.heap.size w (((((w1.setCell ⟨w.heap.size, 0, none⟩ (.int .i64 p.a)).setCell ⟨w.heap.size, 1, none⟩ (.int .i64 p.b)).setCell ⟨w.heap.size, 2, none⟩ (.int .i64 p.c)).setCell ⟨w.heap.size, 3, none⟩ (.int .i64 p.d)).setCell ⟨w.heap.size, 4, none⟩ (.int .i64 p.n)) := by repeat (first | (with_reducible exact Below.refl _ _) | (with_reducible refine Below.setCell ?_ ?_ _) | (with_reducible refine Below.drew ?_) | (with_reducible refine Below.alloc ?_ ?_ _) | (with_reducible refine Below.trans ?_ (Below.mono hw1 ?_)) | (with_reducible exact hw1.size) | omega | (simp <;> omega) | (simp <;> (have s := hw1.size; omega)) | (have s0 := hw1.size; (try simp at s0); (try simp); omega))
    have zg : w.heap.size ≤ w.heap.size := Nat.le_refl _
    have zl : w.heap.size < (((((w1.setCell ⟨w.heap.size, 0, none⟩ (.int .i64 p.a)).setCell ⟨w.heap.size, 1, none⟩ (.int .i64 p.b)).setCell ⟨w.heap.size, 2, none⟩ (.int .i64 p.c)).setCell ⟨w.heap.size, 3, none⟩ (.int .i64 p.d)).setCell ⟨w.heap.size, 4, none⟩ (.int .i64 p.n)).heap.size := by simpa using zl1
    clear u0 u1 u2 u3 u4 zl1
    generalize ((((w1.setCell ⟨w.heap.size, 0, none⟩ (.int .i64 p.a)).setCell ⟨w.heap.size, 1, none⟩ (.int .i64 p.b)).setCell ⟨w.heap.size, 2, none⟩ (.int .i64 p.c)).setCell ⟨w.heap.size, 3, none⟩ (.int .i64 p.d)).setCell ⟨w.heap.size, 4, none⟩ (.int .i64 p.n) = W at *
    have lbg : b < w.heap.size := lb
    obtain ⟨g, hg⟩ : ∃ g, w.heap.size = g := ⟨_, rfl⟩
    rw [hg] at y0 y1 y2 y3 y4 zl zg ⊢
    have zg2 : b < g := by omega
    clear zg
    have zg : b < g := zg2
    have PW := Lib.hid (HP.out.later bW)
    have kW := held_below bW k
    obtain ⟨q0, v0, -, kv, -⟩ := PW.out.kn i j hi hj
    rw [← Nat.add_assoc] at kv
    have lbW := PW.out.lt
    have fW := PW.out.free
    have hgb : g ≠ b := by omega
    have hbg : b ≠ g := by omega
    clear k hw1 hc1 c1 HP a0 a1 a2 a3 a4 b0 b1 b2 b3 b4
    go_wp2
    go_region_held3 (fun w' => w'.cell? ⟨g, 0, none⟩ = some (.int .i64 p.a) ∧ w'.cell? ⟨g, 1, none⟩ = some (.int .i64 p.b) ∧ w'.cell? ⟨g, 2, none⟩ = some (.int .i64 p.c) ∧ w'.cell? ⟨g, 3, none⟩ = some (.int .i64 p.d) ∧ w'.cell? ⟨g, 4, none⟩ = some (.int .i64 p.n))
      (first
        | go_keep
        | (exact ⟨held_below (W := W) (by repeat (first | (with_reducible exact Below.refl _ _) | (with_reducible refine Below.setCell ?_ ?_ _) | (with_reducible refine Below.drew ?_) | (with_reducible refine Below.alloc ?_ ?_ _) | (with_reducible refine Below.trans ?_ (Below.mono hw2 ?_)) | (with_reducible exact hw2.size) | omega | (simp <;> omega) | (simp <;> (have s := hw2.size; omega)) | (have s0 := hw2.size; (try simp at s0); (try simp); omega))) y0, held_below (W := W) (by repeat (first | (with_reducible exact Below.refl _ _) | (with_reducible refine Below.setCell ?_ ?_ _) | (with_reducible refine Below.drew ?_) | (with_reducible refine Below.alloc ?_ ?_ _) | (with_reducible refine Below.trans ?_ (Below.mono hw2 ?_)) | (with_reducible exact hw2.size) | omega | (simp <;> omega) | (simp <;> (have s := hw2.size; omega)) | (have s0 := hw2.size; (try simp at s0); (try simp); omega))) y1, held_below (W := W) (by repeat (first | (with_reducible exact Below.refl _ _) | (with_reducible refine Below.setCell ?_ ?_ _) | (with_reducible refine Below.drew ?_) | (with_reducible refine Below.alloc ?_ ?_ _) | (with_reducible refine Below.trans ?_ (Below.mono hw2 ?_)) | (with_reducible exact hw2.size) | omega | (simp <;> omega) | (simp <;> (have s := hw2.size; omega)) | (have s0 := hw2.size; (try simp at s0); (try simp); omega))) y2, held_below (W := W) (by repeat (first | (with_reducible exact Below.refl _ _) | (with_reducible refine Below.setCell ?_ ?_ _) | (with_reducible refine Below.drew ?_) | (with_reducible refine Below.alloc ?_ ?_ _) | (with_reducible refine Below.trans ?_ (Below.mono hw2 ?_)) | (with_reducible exact hw2.size) | omega | (simp <;> omega) | (simp <;> (have s := hw2.size; omega)) | (have s0 := hw2.size; (try simp at s0); (try simp); omega))) y3, held_below (W := W) (by repeat (first | (with_reducible exact Below.refl _ _) | (with_reducible refine Below.setCell ?_ ?_ _) | (with_reducible refine Below.drew ?_) | (with_reducible refine Below.alloc ?_ ?_ _) | (with_reducible refine Below.trans ?_ (Below.mono hw2 ?_)) | (with_reducible exact hw2.size) | omega | (simp <;> omega) | (simp <;> (have s := hw2.size; omega)) | (have s0 := hw2.size; (try simp at s0); (try simp); omega))) y4⟩)
        | (refine ⟨?_, ?_, ?_, ?_, ?_⟩ <;> ((repeat rw [World.cell?_setCell_other _ _ _ _ (by simp; exact fun h => absurd h hbg)]); first | exact held_below bw2 y0 | exact held_below bw2 y1 | exact held_below bw2 y2 | exact held_below bw2 y3 | exact held_below bw2 y4)))
      (((with_reducible refine (c2 _).mono ?_); rintro e w2 ⟨rfl, hw2⟩; have bw2 : Below W.heap.size W w2 := ⟨hw2.os, hw2.tape, hw2.output, hw2.size, hw2.block⟩; have xk := held_below (W := W) bw2 kv; have xi := held_below (W := W) bw2 kW; have xf : ∀ j, w2.frozen? ⟨b, j, none⟩ = false := fun j => (bw2.frozen (p := ⟨b, j, none⟩) lbW).trans (fW j)))
    have G1 : w.grownBy w2 (some b) := grown_ofB (by repeat (first | (with_reducible exact Below.refl _ _) | (with_reducible refine Below.setCell ?_ ?_ _) | (with_reducible refine Below.drew ?_) | (with_reducible refine Below.alloc ?_ ?_ _) | (with_reducible refine Below.trans ?_ (Below.mono bw2 ?_)) | (with_reducible refine Below.trans ?_ (Below.mono bW ?_)) | (with_reducible exact bw2.size) | (with_reducible exact bW.size) | omega | (simp <;> omega) | (simp <;> (have s := bw2.size; omega)) | (simp <;> (have s := bW.size; omega)) | (have s0 := bw2.size; (try simp at s0); have s1 := bW.size; (try simp at s1); (try simp); omega)))
    have P2 := Lib.hid (PW.out.later bw2)
    have lb2 := P2.out.lt
    clear hw2 y0 y1 y2 y3 y4
    go_wp2
    go_ret
    refine ⟨rfl, (G1.trans (grown_setCell _ ⟨b, _, none⟩ _)).trans (grown_setCell _ ⟨b, _, none⟩ _), ?_⟩
    have := P2.out.put hi hj (v := nm p) (by rw [hx, hy, hP.out])
    simpa only [← Nat.add_assoc] using this
/-- The product of two small units by their numbers; what was asked is known then. -/
theorem timesN_any (b : Nat) (x y : Q) (w : World) (hp : PR w b) (hx : IsS x) (hy : IsS y) :
    Calls Tryz.prog 62 #[.pointer (some ⟨b, 0, none⟩), .int .i64 (nm x), .int .i64 (nm y)] w fun e w' => e = .returned (.int .i64 (nm (low (mul x y)))) ∧ w.grownBy w' (some b) ∧ PR w' b := by
  obtain ⟨i, hi, e1, rfl⟩ := hx.nmN
  obtain ⟨j, hj, e2, rfl⟩ := hy.nmN
  rw [e1, e2]
  obtain ⟨q, v, k1, k2, k3⟩ := hp.kn i j hi hj
  cases q with
  | true =>
    rw [k3 rfl] at k2
    exact (times_known b i j _ w k1 k2 hi hj).mono fun e w' ⟨he, hw⟩ => ⟨he, hw ▸ grown_ofB (Below.refl _ _), hw ▸ hp⟩
  | false => exact times_new b i j w hp hi hj k1
set_option maxHeartbeats 3200000 in
theorem twice_any (b : Nat) (x : Q) (w : World) (hp : PR w b) (hx : IsS x) : Calls Tryz.prog 82 #[.pointer (some ⟨b, 0, none⟩), .int .i64 (nm x)] w fun e w' => e = .returned (.agg #[.int .i64 (tb x), .int .i64 (tc x), .int .i64 (td x)]) ∧ Below w.heap.size w w' := by
  obtain ⟨i, hi, e1, hs⟩ := hx.nmN
  obtain ⟨a0, a1, a2, a3, a4⟩ := hp.un i hi
  rw [hs] at a0 a1 a2 a3 a4
  rw [e1]
  obtain ⟨⟨b1, b2⟩, ⟨c1, c2⟩, ⟨d1, d2⟩, hn, ⟨t1, t2⟩, ⟨t3, t4⟩, ⟨t5, t6⟩⟩ := hx.tw
  have lb := hp.lt
  have HB := Lib.hid (show (2 * x.b).tdiv x.n = tb x from rfl)
  have HC := Lib.hid (show (2 * x.c).tdiv x.n = tc x from rfl)
  have HD := Lib.hid (show (2 * x.d).tdiv x.n = td x from rfl)
  have i1 : (i : Int) < 24 := by omega
  clear hp hx hs e1
  generalize tb x = rb at *
  generalize tc x = rc at *
  generalize td x = rd at *
  obtain ⟨xa, xb, xc, xd, xn⟩ := x
  simp only at *
  have kc := @Tail.cell_re
  have kc1 : ∀ (W : World) (o : Obj) (d : Nat) (os : Array Obj) (a : Addr), a.block ≤ W.heap.size → (Sort.grow (redrawn (W.alloc o) d) os).cell? a = (W.alloc o).cell? a := fun W o d os a h => Tail.cell_re (W.alloc o) d os a (Nat.lt_of_le_of_lt h (by simp))
  have q2 : ∀ z : Int, (2 * z).tdiv 2 = z := fun z => Int.mul_tdiv_cancel_left z (by decide)
  rcases hn with rfl | rfl
  all_goals
    have e0 := HB.out
    have e1 := HC.out
    have e2 := HD.out
    first | simp only [Int.tdiv_one] at e0 e1 e2 | simp only [q2] at e0 e1 e2
    subst e0 e1 e2
    clear HB HC HD q2
    go_enter Tryz.func82, Tryz.ntmps82
    go_wp2
    refine Tail.region_tail_below 19 (by kernel_rfl) (by kernel_rfl) ?_
    simp only [List.take_succ_cons, List.take_zero]
    repeat (go_big_quiet_step (fail))
    refine wpQuiet_nil ?_
    intro w1 hw1
    have hc1 := Tail.cells hw1
    have u0 : w1.cell? ⟨w.heap.size, 0, none⟩ = some (.int .i64 0) := (hc1.1 w.heap.size 0 (by simp <;> omega)).trans (by simp [go_sem])
    have u1 : w1.cell? ⟨w.heap.size, 1, none⟩ = some (.int .i64 0) := (hc1.1 w.heap.size 1 (by simp <;> omega)).trans (by simp [go_sem])
    have u2 : w1.cell? ⟨w.heap.size, 2, none⟩ = some (.int .i64 0) := (hc1.1 w.heap.size 2 (by simp <;> omega)).trans (by simp [go_sem])
    have z0 : w.heap.size < w1.heap.size := Nat.lt_of_lt_of_le (by simp <;> omega) hw1.size
    go_wp2
    refine bodyPost_ret (v := _) (by simp [results, Tryz.results82, go_sem, u0, u1, u2, z0]; try rfl) rfl ⟨rfl, ?_⟩
    repeat (first | (with_reducible exact Below.refl _ _) | (with_reducible refine Below.setCell ?_ ?_ _) | (with_reducible refine Below.drew ?_) | (with_reducible refine Below.alloc ?_ ?_ _) | (with_reducible refine Below.trans ?_ (Below.mono hw1 ?_)) | (with_reducible exact hw1.size) | omega | (simp <;> omega) | (simp <;> (have s := hw1.size; omega)) | (have s0 := hw1.size; (try simp at s0); (try simp); omega))
end Go.Proofs.YtilbhcjnkmeecaaGreat

/- The table of products, as the program makes it.
Conditions: those written at each theorem. -/
namespace Go.Proofs.YtilbhcjnkmeecaaGreat
set_option linter.unusedVariables false
set_option linter.unusedSimpArgs false
set_option maxRecDepth 1000000
open Go.RowKit
open Um Tm Cm Km

/-- the table while it is made: k units are there -/
structure PZ (w : World) (b k m : Nat) : Prop where
  un : ∀ i : Nat, i < k → w.cell? ⟨b, i * 5, none⟩ = some (.int .i64 (small i).a) ∧ w.cell? ⟨b, i * 5 + 1, none⟩ = some (.int .i64 (small i).b) ∧ w.cell? ⟨b, i * 5 + 2, none⟩ = some (.int .i64 (small i).c) ∧ w.cell? ⟨b, i * 5 + 3, none⟩ = some (.int .i64 (small i).d) ∧ w.cell? ⟨b, i * 5 + 4, none⟩ = some (.int .i64 (small i).n)
  ux : ∀ j : Nat, j < 144 → ∃ v : Int, w.cell? ⟨b, j, none⟩ = some (.int .i64 v)
  iv : ∀ i : Nat, i < m → w.cell? ⟨b, 120 + i, none⟩ = some (.int .i64 (nm (bar (small i))))
  kn : ∀ j : Nat, j < 576 → w.cell? ⟨b, 144 + j, none⟩ = some (.bool false) ∧ ∃ v : Int, w.cell? ⟨b, 720 + j, none⟩ = some (.int .i64 v)
  free : ∀ j, w.frozen? ⟨b, j, none⟩ = false
  lt : b < w.heap.size
theorem PZ.grown {w w1 : World} {b m n : Nat} {row : Option Nat} (k : PZ w b m n) (hg : w.grownBy w1 row) (hne : some b ≠ row) : PZ w1 b m n :=
  ⟨fun i hi => by
    obtain ⟨h0, h1, h2, h3, h4⟩ := k.un i hi
    exact ⟨hg.cell h0 hne, hg.cell h1 hne, hg.cell h2 hne, hg.cell h3 hne, hg.cell h4 hne⟩,
   fun j hj => by
    obtain ⟨v, h⟩ := k.ux j hj
    exact ⟨v, hg.cell h hne⟩,
   fun i hi => hg.cell (k.iv i hi) hne,
   fun j hj => by
    obtain ⟨h1, v, h2⟩ := k.kn j hj
    exact ⟨hg.cell h1 hne, v, hg.cell h2 hne⟩,
   fun j => (World.frozen?_of_block (a := ⟨b, j, none⟩) (hg.block b k.lt hne)).trans (k.free j), Nat.lt_of_lt_of_le k.lt hg.size⟩
theorem PZ.later {w w1 : World} {b m n : Nat} (k : PZ w b m n) (hb : Below w.heap.size w w1) : PZ w1 b m n := k.grown (row := none) (grown_ofB hb) (by simp)
theorem PZ.done {w : World} {b : Nat} (k : PZ w b 24 24) : PR w b :=
  ⟨k.un, k.iv, fun i j hi hj => by
    obtain ⟨h1, v, h2⟩ := k.kn (i * 24 + j) (by omega)
    exact ⟨false, v, h1, h2, fun h => by simp at h⟩, k.free, k.lt⟩
theorem zeroPr : Tryz.zeroCells134.toList = List.replicate 144 (.int .i64 0) ++ (List.replicate 576 (.bool false) ++ List.replicate 576 (.int .i64 0)) := by kernel_rfl
theorem PZ.news {w : World} {b : Nat} (h : w.heap[b]? = some (.cells Tryz.zeroCells134 134 (0, 0))) : PZ w b 0 0 := by
  have c : ∀ i, w.cell? ⟨b, i, none⟩ = (List.replicate 144 (Value.int .i64 0) ++ (List.replicate 576 (Value.bool false) ++ List.replicate 576 (Value.int .i64 0)))[i]? := fun i => by
    simp only [World.cell?, h]
    rw [← Array.getElem?_toList, zeroPr]
    exact if_neg (by simp)
  refine ⟨fun i hi => by omega, fun j hj => ⟨0, ?_⟩, fun i hi => by omega, fun j hj => ⟨?_, 0, ?_⟩, fun j => by simp [World.frozen?, h], (Array.getElem?_eq_some_iff.1 h).1⟩
  · rw [c, List.getElem?_append_left (by simp; omega), List.getElem?_replicate, if_pos hj]
  · rw [c, List.getElem?_append_right (by simp), List.length_replicate, show 144 + j - 144 = j by omega, List.getElem?_append_left (by simp; omega), List.getElem?_replicate, if_pos hj]
  · rw [c, List.getElem?_append_right (by simp; omega), List.length_replicate, List.getElem?_append_right (by simp; omega), List.length_replicate, List.getElem?_replicate, if_pos (by omega)]
/-- a unit is there -/
theorem PZ.row {w : World} {b k : Nat} (h : PZ w b k k) (hk : k < 24) : PZ (w.setCells b (k * 5) (uc (small k))) b (k + 1) k := by
  have hg := grown_setCells b (uc (small k)) (k * 5) w
  have o : ∀ (n : Nat) (x : Value), (n < k * 5 ∨ k * 5 + 5 ≤ n) → w.cell? ⟨b, n, none⟩ = some x → (w.setCells b (k * 5) (uc (small k))).cell? ⟨b, n, none⟩ = some x := fun n x hn hx => by
    rw [World.cell?_setCells_out b (uc (small k)) (k * 5) w _ (fun _ _ => by rw [uc_len]; show n < k * 5 ∨ k * 5 + 5 ≤ n; exact hn)]
    exact hx
  have c := World.cell?_setCells_in b (uc (small k)) (k * 5) w (fun j hj => by
    rw [uc_len] at hj
    obtain ⟨v, hv⟩ := h.ux (k * 5 + j) (by omega)
    rw [hv]; rfl)
  refine ⟨fun i hi => ?_, fun j hj => ?_, fun i hi => o _ _ (by omega) (h.iv i hi), fun j hj => ?_, fun j => by rw [World.frozen?_setCells]; exact h.free j, Nat.lt_of_lt_of_le h.lt hg.size⟩
  · by_cases he : i = k
    · subst he
      exact ⟨c 0 (by simp [uc]), c 1 (by simp [uc]), c 2 (by simp [uc]), c 3 (by simp [uc]), c 4 (by simp [uc])⟩
    · obtain ⟨h0, h1, h2, h3, h4⟩ := h.un i (by omega)
      exact ⟨o _ _ (by omega) h0, o _ _ (by omega) h1, o _ _ (by omega) h2, o _ _ (by omega) h3, o _ _ (by omega) h4⟩
  · by_cases hj2 : j < k * 5 ∨ k * 5 + 5 ≤ j
    · obtain ⟨v, hv⟩ := h.ux j hj
      exact ⟨v, o _ _ hj2 hv⟩
    · obtain ⟨m, rfl⟩ : ∃ m, j = k * 5 + m := ⟨j - k * 5, by omega⟩
      have hm : m = 0 ∨ m = 1 ∨ m = 2 ∨ m = 3 ∨ m = 4 := by omega
      rcases hm with rfl | rfl | rfl | rfl | rfl
      · exact ⟨_, c 0 (by simp [uc])⟩
      · exact ⟨_, c 1 (by simp [uc])⟩
      · exact ⟨_, c 2 (by simp [uc])⟩
      · exact ⟨_, c 3 (by simp [uc])⟩
      · exact ⟨_, c 4 (by simp [uc])⟩
  · obtain ⟨h1, v, h2⟩ := h.kn j hj
    exact ⟨o _ _ (by omega) h1, v, o _ _ (by omega) h2⟩
/-- an inverse's number is there -/
theorem PZ.inv {w : World} {b k : Nat} (h : PZ w b (k + 1) k) (hk : k < 24) : PZ (w.setCell ⟨b, 120 + k, none⟩ (.int .i64 (nm (bar (small k))))) b (k + 1) (k + 1) := by
  have o : ∀ (n : Nat) (x : Value), n ≠ 120 + k → w.cell? ⟨b, n, none⟩ = some x → (w.setCell ⟨b, 120 + k, none⟩ (.int .i64 (nm (bar (small k))))).cell? ⟨b, n, none⟩ = some x := fun n x hn hx => by
    rw [World.cell?_setCell_other _ _ _ _ (by simp <;> omega)]
    exact hx
  have c : (w.setCell ⟨b, 120 + k, none⟩ (.int .i64 (nm (bar (small k))))).cell? ⟨b, 120 + k, none⟩ = some (.int .i64 (nm (bar (small k)))) := by
    obtain ⟨v, hv⟩ := h.ux (120 + k) (by omega)
    exact World.cell?_setCell_same _ _ _ hv
  refine ⟨fun i hi => ?_, fun j hj => ?_, fun i hi => ?_, fun j hj => ?_, fun j => by rw [World.frozen?_setCell]; exact h.free j, by simp [World.setCell]; exact h.lt⟩
  · obtain ⟨h0, h1, h2, h3, h4⟩ := h.un i hi
    exact ⟨o _ _ (by omega) h0, o _ _ (by omega) h1, o _ _ (by omega) h2, o _ _ (by omega) h3, o _ _ (by omega) h4⟩
  · by_cases he : j = 120 + k
    · rw [he]; exact ⟨_, c⟩
    · obtain ⟨v, hv⟩ := h.ux j hj
      exact ⟨v, o _ _ he hv⟩
  · by_cases he : i = k
    · rw [he]; exact c
    · exact o _ _ (by omega) (h.iv i (by omega))
  · obtain ⟨h1, v, h2⟩ := h.kn j hj
    exact ⟨o _ _ (by omega) h1, v, o _ _ (by omega) h2⟩
set_option maxHeartbeats 3200000 in
theorem newProducts_any (w : World) : Calls Tryz.prog 79 #[] w fun e w' => ∃ g : Nat, e = .returned (.pointer (some ⟨g, 0, none⟩)) ∧ w.heap.size ≤ g ∧ PR w' g ∧ Below w.heap.size w w' := by
  have c1 := fun (k : Nat) (h : k < 24) (W : World) => small_any k W (by omega) (by omega)
  have HC := Lib.hid c1
  clear c1
  have HI := Lib.hid (fun (k : Nat) (h : k < 24) (W : World) => inv_ok (small k) W (small_one k h).V)
  have HN := Lib.hid (fun (k : Nat) (h : k < 24) (W : World) => numberOf_any (bar (small k)) W (small_one k h).bar)
  have kc := @Tail.cell_re
  have kc1 : ∀ (W : World) (o : Obj) (d : Nat) (os : Array Obj) (a : Addr), a.block ≤ W.heap.size → (Sort.grow (redrawn (W.alloc o) d) os).cell? a = (W.alloc o).cell? a := fun W o d os a h => Tail.cell_re (W.alloc o) d os a (Nat.lt_of_le_of_lt h (by simp))
  go_enter Tryz.func79, Tryz.ntmps79
  go_wp2
  have P0 := Lib.hid (PZ.news (w := w.alloc (.cells Tryz.zeroCells134 134)) (heap_alloc_new w _))
  have b0 : Below w.heap.size w (w.alloc (.cells Tryz.zeroCells134 134)) := by repeat (first | (with_reducible exact Below.refl _ _) | (with_reducible refine Below.setCell ?_ ?_ _) | (with_reducible refine Below.drew ?_) | (with_reducible refine Below.alloc ?_ ?_ _) | omega | (simp <;> omega))
  generalize w.alloc (.cells Tryz.zeroCells134 134) = W0 at *
  go_loopw [2, 3, 4, 7] (fun _ _ _ q wr => ∃ k : Nat, k ≤ 24 ∧ q = .int .i64 k ∧ Hid (PZ wr w.heap.size k k) ∧ Below w.heap.size w wr) (fun _ _ _ q _ => 24 - (intOf q).toNat)
  case atStart => exact ⟨0, by omega, rfl, P0, b0⟩
  case round =>
    obtain ⟨k, hk, rfl, hP, hb⟩ := hrel
    clear P0 b0
    by_cases hlt : k < 24
    · have i1 : (k : Int) < 24 := by omega
      have c1 := HC.out k hlt
      have c2 := HI.out k hlt
      have c3 := HN.out k hlt
      have lb := hP.out.lt
      obtain ⟨x, hx⟩ : ∃ x, small (k : Int) = x := ⟨_, rfl⟩
      rw [hx] at c1 c2 c3
      have HX := Lib.hid hx
      clear hx
      go_wp2
      go_region_held3 (fun _ => True) (trivial) (((with_reducible refine (c1 _).mono ?_); rintro e w1 ⟨rfl, hw1⟩; have bw1 : Below wr.heap.size wr w1 := ⟨hw1.os, hw1.tape, hw1.output, hw1.size, hw1.block⟩; have P1 := Lib.hid (hP.out.later bw1); obtain ⟨v0, x0⟩ := P1.out.ux (k * 5) (by omega); obtain ⟨v1, x1⟩ := P1.out.ux (k * 5 + 1) (by omega); obtain ⟨v2, x2⟩ := P1.out.ux (k * 5 + 2) (by omega); obtain ⟨v3, x3⟩ := P1.out.ux (k * 5 + 3) (by omega); obtain ⟨v4, x4⟩ := P1.out.ux (k * 5 + 4) (by omega); have f1 := P1.out.free; have l1 := P1.out.lt))
      have P2 : PZ (((((w1.setCell ⟨w.heap.size, k * 5, none⟩ (.int .i64 x.a)).setCell ⟨w.heap.size, k * 5 + 1, none⟩ (.int .i64 x.b)).setCell ⟨w.heap.size, k * 5 + 2, none⟩ (.int .i64 x.c)).setCell ⟨w.heap.size, k * 5 + 3, none⟩ (.int .i64 x.d)).setCell ⟨w.heap.size, k * 5 + 4, none⟩ (.int .i64 x.n)) w.heap.size (k + 1) k := by
        have := P1.out.row hlt
        rw [HX.out] at this
        exact this
      have b2 : Below w.heap.size w (((((w1.setCell ⟨w.heap.size, k * 5, none⟩ (.int .i64 x.a)).setCell ⟨w.heap.size, k * 5 + 1, none⟩ (.int .i64 x.b)).setCell ⟨w.heap.size, k * 5 + 2, none⟩ (.int .i64 x.c)).setCell ⟨w.heap.size, k * 5 + 3, none⟩ (.int .i64 x.d)).setCell ⟨w.heap.size, k * 5 + 4, none⟩ (.int .i64 x.n)) := by repeat (first | (with_reducible exact Below.refl _ _) | (with_reducible refine Below.setCell ?_ ?_ _) | (with_reducible refine Below.drew ?_) | (with_reducible refine Below.alloc ?_ ?_ _) | (with_reducible refine Below.trans ?_ (Below.mono bw1 ?_)) | (with_reducible refine Below.trans ?_ (Below.mono hb ?_)) | (with_reducible exact bw1.size) | (with_reducible exact hb.size) | omega | (simp <;> omega) | (simp <;> (have s := bw1.size; omega)) | (simp <;> (have s := hb.size; omega)) | (have s0 := bw1.size; (try simp at s0); have s1 := hb.size; (try simp at s1); (try simp); omega))
      clear x0 x1 x2 x3 x4 hw1
      generalize ((((w1.setCell ⟨w.heap.size, k * 5, none⟩ (.int .i64 x.a)).setCell ⟨w.heap.size, k * 5 + 1, none⟩ (.int .i64 x.b)).setCell ⟨w.heap.size, k * 5 + 2, none⟩ (.int .i64 x.c)).setCell ⟨w.heap.size, k * 5 + 3, none⟩ (.int .i64 x.d)).setCell ⟨w.heap.size, k * 5 + 4, none⟩ (.int .i64 x.n) = W2 at *
      have y := P2.un k (by omega)
      rw [HX.out] at y
      obtain ⟨y0, y1, y2, y3, y4⟩ := y
      have l2 := P2.lt
      have HP2 := Lib.hid P2
      clear P2 P1 hP l1 f1
      go_wp2_with ((with_reducible refine (c2 _).mono ?_); clear c2; rintro e w3 ⟨rfl, hw3⟩; have hc3 := Tail.cells hw3; have z3 : w.heap.size < w3.heap.size := by have := hw3.size; omega)
      refine Tail.region_tail_below 7 (by kernel_rfl) (by kernel_rfl) ?_
      simp only [List.take_succ_cons, List.take_zero]
      repeat (go_big_quiet_step (first | (with_reducible exact Calls.regrown_of (c3 _))))
      refine wpQuiet_nil ?_
      intro w4 hw4
      have b4 : Below W2.heap.size W2 w4 := by repeat (first | (with_reducible exact Below.refl _ _) | (with_reducible refine Below.setCell ?_ ?_ _) | (with_reducible refine Below.drew ?_) | (with_reducible refine Below.alloc ?_ ?_ _) | (with_reducible refine Below.trans ?_ (Below.mono hw4 ?_)) | (with_reducible refine Below.trans ?_ (Below.mono hw3 ?_)) | (with_reducible exact hw4.size) | (with_reducible exact hw3.size) | omega | (simp <;> omega) | (simp <;> (have s := hw4.size; omega)) | (simp <;> (have s := hw3.size; omega)) | (have s0 := hw4.size; (try simp at s0); have s1 := hw3.size; (try simp at s1); (try simp); omega))
      have P4 := HP2.out.later b4
      obtain ⟨v, x5⟩ := P4.ux (120 + k) (by omega)
      have f4 := P4.free
      have l4 := P4.lt
      have PI := P4.inv hlt
      rw [HX.out] at PI
      have HPI := Lib.hid PI
      clear PI P4
      go_wp2
      exact ⟨⟨k + 1, by omega, by go_num, HPI, by repeat (first | (with_reducible exact Below.refl _ _) | (with_reducible refine Below.setCell ?_ ?_ _) | (with_reducible refine Below.drew ?_) | (with_reducible refine Below.alloc ?_ ?_ _) | (with_reducible refine Below.trans ?_ (Below.mono b4 ?_)) | (with_reducible refine Below.trans ?_ (Below.mono b2 ?_)) | (with_reducible exact b4.size) | (with_reducible exact b2.size) | omega | (simp <;> omega) | (simp <;> (have s := b4.size; omega)) | (simp <;> (have s := b2.size; omega)) | (have s0 := b4.size; (try simp at s0); have s1 := b2.size; (try simp at s1); (try simp); omega))⟩, by simp [intOf]; omega⟩
    · obtain rfl : k = 24 := by omega
      go_wp2
      go_ret
      exact ⟨w.heap.size, rfl, Nat.le_refl _, hP.out.done, hb⟩
end Go.Proofs.YtilbhcjnkmeecaaGreat

/- Where the steps from a site lead, as the program keeps them, and a trajectory's beginning.
Conditions: those written at each theorem. -/
namespace Go.Proofs.YtilbhcjnkmeecaaGreat
set_option linter.unusedVariables false
set_option linter.unusedSimpArgs false
set_option maxRecDepth 1000000
open Go.RowKit
open Um Tm Cm Km

/-- what a list of neighbours holds -/
def nb7 (a b c s : Int) : List Value := [.int .i64 (nx a b c s (-3)), .int .i64 (nx a b c s (-2)), .int .i64 (nx a b c s (-1)), .int .i64 0, .int .i64 (nx a b c s 1), .int .i64 (nx a b c s 2), .int .i64 (nx a b c s 3)]
set_option maxHeartbeats 6400000 in
theorem neigh_any (a b c s : Int) (w : World) (hz : Sz a b c) (h0 : 0 ≤ s) (h1 : s < a * b * c) : Calls Tryz.prog 80 #[.agg #[.int .i64 a, .int .i64 b, .int .i64 c], .int .i64 s] w fun e w' => e = .returned (.tuple #[.agg (nb7 a b c s).toArray, .int .i64 0]) ∧ Below w.heap.size w w' := by
  have cc := fun (t : Int) (ht : IsStep t) (W : World) => nextO_any a b c s t (nx a b c s t) 0 W (.inr (.inr (.inr ⟨hz, h0, h1, ht, rfl, rfl⟩)))
  have c0 := cc (-3) (by unfold IsStep; decide)
  have c1 := cc (-2) (by unfold IsStep; decide)
  have c2 := cc (-1) (by unfold IsStep; decide)
  have c4 := cc 1 (by unfold IsStep; decide)
  have c5 := cc 2 (by unfold IsStep; decide)
  have c6 := cc 3 (by unfold IsStep; decide)
  clear cc hz h0 h1
  unfold nb7
  generalize nx a b c s (-3) = n0 at *
  generalize nx a b c s (-2) = n1 at *
  generalize nx a b c s (-1) = n2 at *
  generalize nx a b c s 1 = n4 at *
  generalize nx a b c s 2 = n5 at *
  generalize nx a b c s 3 = n6 at *
  go_enter Tryz.func80, Tryz.ntmps80
  go_wp2
  refine wp_loop_rounds 8 ?_
  rw [rounds_succ]
  go_wp2_with ((with_reducible refine (c0 _).mono ?_); clear c0; rintro e w1 ⟨rfl, hw1⟩; have hc1 := Tail.cells hw1; have s1 := hw1.size; (try simp at s1); have z1 : w.heap.size < w1.heap.size := (by omega); have y1 : w.heap.size + 1 < w1.heap.size := (by omega); have x1 : w.heap.size + 1 + 1 < w1.heap.size := (by omega); clear s1)
  rw [rounds_succ]
  go_wp2_with ((with_reducible refine (c1 _).mono ?_); clear c1; rintro e w2 ⟨rfl, hw2⟩; have hc2 := Tail.cells hw2; have s2 := hw2.size; (try simp at s2); have z2 : w.heap.size < w2.heap.size := (by omega); have y2 : w.heap.size + 1 < w2.heap.size := (by omega); have x2 : w.heap.size + 1 + 1 < w2.heap.size := (by omega); clear s2)
  rw [rounds_succ]
  go_wp2_with ((with_reducible refine (c2 _).mono ?_); clear c2; rintro e w3 ⟨rfl, hw3⟩; have hc3 := Tail.cells hw3; have s3 := hw3.size; (try simp at s3); have z3 : w.heap.size < w3.heap.size := (by omega); have y3 : w.heap.size + 1 < w3.heap.size := (by omega); have x3 : w.heap.size + 1 + 1 < w3.heap.size := (by omega); clear s3)
  rw [rounds_succ]
  go_wp2
  rw [rounds_succ]
  go_wp2_with ((with_reducible refine (c4 _).mono ?_); clear c4; rintro e w5 ⟨rfl, hw5⟩; have hc5 := Tail.cells hw5; have s5 := hw5.size; (try simp at s5); have z5 : w.heap.size < w5.heap.size := (by omega); have y5 : w.heap.size + 1 < w5.heap.size := (by omega); have x5 : w.heap.size + 1 + 1 < w5.heap.size := (by omega); clear s5)
  rw [rounds_succ]
  go_wp2_with ((with_reducible refine (c5 _).mono ?_); clear c5; rintro e w6 ⟨rfl, hw6⟩; have hc6 := Tail.cells hw6; have s6 := hw6.size; (try simp at s6); have z6 : w.heap.size < w6.heap.size := (by omega); have y6 : w.heap.size + 1 < w6.heap.size := (by omega); have x6 : w.heap.size + 1 + 1 < w6.heap.size := (by omega); clear s6)
  rw [rounds_succ]
  go_wp2_with ((with_reducible refine (c6 _).mono ?_); clear c6; rintro e w7 ⟨rfl, hw7⟩; have hc7 := Tail.cells hw7; have s7 := hw7.size; (try simp at s7); have z7 : w.heap.size < w7.heap.size := (by omega); have y7 : w.heap.size + 1 < w7.heap.size := (by omega); have x7 : w.heap.size + 1 + 1 < w7.heap.size := (by omega); clear s7)
  rw [rounds_succ]
  go_wp2
  have u0 : w7.cell? ⟨w.heap.size + 1, 0, none⟩ = some (.int .i64 0) := by simp [go_sem, hc1, hc2, hc3, hc5, hc6, hc7, y1, x1, y2, x2, y3, x3, y5, x5, y6, x6, y7, x7]
  have u1 : w7.cell? ⟨w.heap.size + 1, 1, none⟩ = some (.int .i64 0) := by simp [go_sem, hc1, hc2, hc3, hc5, hc6, hc7, y1, x1, y2, x2, y3, x3, y5, x5, y6, x6, y7, x7]
  have u2 : w7.cell? ⟨w.heap.size + 1, 2, none⟩ = some (.int .i64 0) := by simp [go_sem, hc1, hc2, hc3, hc5, hc6, hc7, y1, x1, y2, x2, y3, x3, y5, x5, y6, x6, y7, x7]
  have u3 : w7.cell? ⟨w.heap.size + 1, 3, none⟩ = some (.int .i64 0) := by simp [go_sem, hc1, hc2, hc3, hc5, hc6, hc7, y1, x1, y2, x2, y3, x3, y5, x5, y6, x6, y7, x7]
  have u4 : w7.cell? ⟨w.heap.size + 1, 4, none⟩ = some (.int .i64 0) := by simp [go_sem, hc1, hc2, hc3, hc5, hc6, hc7, y1, x1, y2, x2, y3, x3, y5, x5, y6, x6, y7, x7]
  have u5 : w7.cell? ⟨w.heap.size + 1, 5, none⟩ = some (.int .i64 0) := by simp [go_sem, hc1, hc2, hc3, hc5, hc6, hc7, y1, x1, y2, x2, y3, x3, y5, x5, y6, x6, y7, x7]
  have u6 : w7.cell? ⟨w.heap.size + 1, 6, none⟩ = some (.int .i64 0) := by simp [go_sem, hc1, hc2, hc3, hc5, hc6, hc7, y1, x1, y2, x2, y3, x3, y5, x5, y6, x6, y7, x7]
  refine bodyPost_ret (v := .tuple #[.agg #[.int .i64 n0, .int .i64 n1, .int .i64 n2, .int .i64 0, .int .i64 n4, .int .i64 n5, .int .i64 n6], .int .i64 0]) ?_ rfl ⟨rfl, ?_⟩
  · simp [results, Tryz.results80, go_sem, u0, u1, u2, u3, u4, u5, u6, y7, x7]
  · repeat (first | (with_reducible exact Below.refl _ _) | (with_reducible refine Below.setCell ?_ ?_ _) | (with_reducible refine Below.drew ?_) | (with_reducible refine Below.alloc ?_ ?_ _) | (with_reducible refine Below.trans ?_ (Below.mono hw7 ?_)) | (with_reducible refine Below.trans ?_ (Below.mono hw6 ?_)) | (with_reducible refine Below.trans ?_ (Below.mono hw5 ?_)) | (with_reducible refine Below.trans ?_ (Below.mono hw3 ?_)) | (with_reducible refine Below.trans ?_ (Below.mono hw2 ?_)) | (with_reducible refine Below.trans ?_ (Below.mono hw1 ?_)) | (with_reducible exact hw7.size) | (with_reducible exact hw6.size) | (with_reducible exact hw5.size) | (with_reducible exact hw3.size) | (with_reducible exact hw2.size) | (with_reducible exact hw1.size) | omega | (simp <;> omega) | (simp <;> (have s := hw7.size; omega)) | (simp <;> (have s := hw6.size; omega)) | (simp <;> (have s := hw5.size; omega)) | (simp <;> (have s := hw3.size; omega)) | (simp <;> (have s := hw2.size; omega)) | (simp <;> (have s := hw1.size; omega)) | (have s0 := hw7.size; (try simp at s0); have s1 := hw6.size; (try simp at s1); have s2 := hw5.size; (try simp at s2); have s3 := hw3.size; (try simp at s3); have s4 := hw2.size; (try simp at s4); have s5 := hw1.size; (try simp at s5); (try simp); omega))
theorem owned_IBox {w : World} {base : Nat} {T : TypeId} {g cap : Nat} {l : List Int} (h : w.ownsRow base T 1 (.slice (some ⟨g, 0, none⟩) l.length cap) l.length (l.map vi)) : IBox w g l := by
  refine ⟨owned_liesI h, fun j => ?_, ?_⟩
  all_goals
    rcases h.2 with ⟨h', _⟩ | ⟨g', cap', cur, h', hb, hg, _⟩
    · simp at h'
    · simp only [Value.slice.injEq, Option.some.injEq, Addr.mk.injEq, and_true, true_and] at h'
      obtain ⟨rfl, -⟩ := h'
      first
        | exact (Array.getElem?_eq_some_iff.1 hg).1
        | simp [World.frozen?, hg]
theorem smR_nm {L : List Q} {ns : List Int} (h : smR L ns true) : ns = L.map nm ∧ ∀ x ∈ L, IsS x := by
  rcases h with ⟨-, h1, h2⟩ | ⟨h, -⟩
  · have hS : ∀ x ∈ L, IsS x := fun x hx => by
      obtain ⟨i, hi, rfl⟩ := List.getElem_of_mem hx
      obtain ⟨n, -, hn⟩ := h2 i _ hi (List.getElem?_eq_getElem hi)
      rcases hn with ⟨k, hk, e, -⟩ | ⟨-, -, hb⟩
      · exact ⟨k, hk, e⟩
      · simp at hb
    refine ⟨List.ext_getElem? fun i => ?_, hS⟩
    by_cases hi : i < L.length
    · obtain ⟨n, hn, hr⟩ := h2 i _ hi (List.getElem?_eq_getElem hi)
      have hs := hS _ (List.getElem_mem hi)
      rw [hn, List.getElem?_map, List.getElem?_eq_getElem hi]
      have h3 := numR_nm hs
      rcases hr with ⟨k, hk, e, hm, rfl, -⟩ | ⟨-, -, hb⟩
      · obtain ⟨j, hj, ej, e2⟩ := hs.nmN
        have : k = j := small_inj k hk j hj (by rw [e, e2])
        simp [ej, this]
      · simp at hb
    · rw [List.getElem?_eq_none (by omega), List.getElem?_map, List.getElem?_eq_none (by omega)]
      rfl
  · simp at h
def RetNB (m : Nat) (ns : List Int) (e : Ending) (w' : World) : Prop := ∃ g k : Nat, e = .returned (.tuple #[.slice (some ⟨g, 0, none⟩) ns.length k, .int .i64 0]) ∧ IBox w' g ns ∧ m ≤ g
set_option maxHeartbeats 3200000 in
theorem numbersB_ok (a b c : Int) (ao : Option Addr) (cap : Nat) (L : List Q) (ns : List Int) (w : World) (h : LiesO w ao L) (hr : fldR a b c L 0) (hq : smR L ns true) : Calls Tryz.prog 69 #[.agg #[.int .i64 a, .int .i64 b, .int .i64 c, .slice ao L.length cap]] w fun e w' => RetNB w.heap.size ns e w' ∧ Below w.heap.size w w' := by
  have hlen := fld_len hr
  obtain ⟨bl, off, rfl, h2⟩ := fld_some hr h
  have c1 : ∀ W : World, LiesO W (some ⟨bl, off, none⟩) L → Calls Tryz.prog 94 #[.agg #[.int .i64 a, .int .i64 b, .int .i64 c, .slice (some ⟨bl, off, none⟩) L.length cap]] W fun e w' => e = .returned (.int .i64 0) ∧ Below W.heap.size W w' := fun W h => validateF_any a b c 0 _ cap L W h hr (by omega)
  obtain ⟨i0, hi, hz0, hz1, hz2⟩ := info_parts infoI
  have HV := Lib.hid (fldR_ok hr).2.2
  have HO := Lib.hid h
  have H := Lib.hid h2
  have HQ := Lib.hid hq
  have hl2 : L.length ≤ maxLen := by unfold maxLen; omega
  have hl3 : i0.bytes * L.length ≤ 281474976710656 := by rw [hz2]; omega
  clear h h2 hr hq
  go_enter Tryz.func69, Tryz.ntmps69
  go_wp2_with (first | ((with_reducible refine (c1 _ (HO.out.later (by repeat (first | (with_reducible exact Below.refl _ _) | (with_reducible refine Below.setCell ?_ ?_ _) | (with_reducible refine Below.drew ?_) | (with_reducible refine Below.alloc ?_ ?_ _) | omega | (simp <;> omega))))).mono ?_); rintro e w1 ⟨rfl, hw1⟩; have s1 := hw1.size; simp at s1; have hc1 := Tail.cells hw1; have z0 := Nat.lt_of_lt_of_le (n := w.heap.size) (by simp) hw1.size) | (at_make; refine wpList_make_own _ rfl _ _ 62 rfl w1.heap.size 3 i0 _ 1 Tryz.underlying62 hi hz0 hz1 _ _ _ L.length rfl rfl rfl hl3 hl2 (Nat.le_refl _) ?_; intro w2 hown hgrow; have fb3 : w2.cell? ⟨w.heap.size, 3, none⟩ = some (.slice (some ⟨bl, off, none⟩) L.length cap) := hgrow.cell (by simp [go_sem, hc1, z0]) (by simp)))
  have hb2 : Below w.heap.size w w2 := (show Below w.heap.size w w1 by repeat (first | (with_reducible exact Below.refl _ _) | (with_reducible refine Below.setCell ?_ ?_ _) | (with_reducible refine Below.drew ?_) | (with_reducible refine Below.alloc ?_ ?_ _) | (with_reducible refine Below.trans ?_ (Below.mono hw1 ?_)) | (with_reducible exact hw1.size) | omega | (simp <;> omega) | (simp <;> (have s := hw1.size; omega)) | (have s0 := hw1.size; (try simp at s0); (try simp); omega))).grown hgrow (by omega) (by simp)
  have s2 := hgrow.size
  clear hgrow hw1 fb3 hc1 z0 c1
  have HG := Lib.hid (show w.heap.size ≤ w1.heap.size from by omega)
  generalize w1.heap.size = g at *
  go_loopw [5, 7, 8, 9, 10, 23] (fun f _ _ _ _ q wr => ∃ (k : Nat) (ms : List Int), k ≤ L.length ∧ q = .int .i64 k ∧ Hid (Nums L ms k) ∧ f = .slice (some ⟨g, 0, none⟩) k L.length ∧ Hid (wr.ownsRow g 3 1 (.slice (some ⟨g, 0, none⟩) k L.length) k (ms.map vi)) ∧ Below w.heap.size w wr ∧ g ≤ wr.heap.size) (fun _ _ _ _ _ q _ => L.length - (intOf q).toNat)
  case atStart => exact ⟨0, [], by omega, rfl, Lib.hid ⟨rfl, fun i x h => by omega⟩, rfl, Lib.hid hown, hb2, s2⟩
  case round =>
    obtain ⟨k, ms, hk, rfl, hms, rfl, hown1, hb, hgs⟩ := hrel
    clear hown hb2 s2
    have hbs := hb.size
    by_cases hlt : k < L.length
    · have hx : L[k]? = some L[k] := List.getElem?_eq_getElem hlt
      have hvx := (HV.out k _ hx).1
      obtain ⟨l0, l1, l2, l3, l4⟩ := H.out.later hb k _ hx
      obtain ⟨n, bq, hn⟩ := NumR.ex L[k]
      generalize L[k] = x at *
      have c2 := fun W : World => number_ok x n bq W hvx hn
      cases bq with
      | true =>
        have hnext := Lib.hid (nums_snoc hms.out hx hn)
        clear hvx hx hms hn
        go_wp2_with (first | ((with_reducible refine (c2 _).mono ?_); clear c2; rintro e w3 ⟨rfl, hw3⟩; have s3 := hw3.size; simp at s3) | (at_builtin; refine wpList_append_fits _ rfl (.tmp 38) (.tmp 40) 62 rfl g 3 i0 1 Tryz.underlying62 hi hz1 g k L.length (ms.map vi) rfl ((owned_later (hown1.out.alloc _) hw3).alloc _) ⟨w3.heap.size, 0, none⟩ 1 1 [vi n] rfl rfl (one_cell (by simp [go_sem, vi])) (one_one _) (by omega) ?_; intro w4 hown4 hgrow4))
        have hb3 : Below w.heap.size w w3 := by repeat (first | (with_reducible exact Below.refl _ _) | (with_reducible refine Below.setCell ?_ ?_ _) | (with_reducible refine Below.drew ?_) | (with_reducible refine Below.alloc ?_ ?_ _) | (with_reducible refine Below.trans ?_ (Below.mono hw3 ?_)) | (with_reducible refine Below.trans ?_ (Below.mono hb ?_)) | (with_reducible exact hw3.size) | (with_reducible exact hb.size) | omega | (simp <;> omega) | (simp <;> (have s := hw3.size; omega)) | (simp <;> (have s := hb.size; omega)) | (have s0 := hw3.size; (try simp at s0); have s1 := hb.size; (try simp at s1); (try simp); omega))
        have hb4 := (hb3.alloc hb3.size _).grown hgrow4 (by have := hb3.size; simp; omega) (fun j hj => by simp at hj; omega)
        have s4 := hgrow4.size
        simp at s4
        have ho : w4.ownsRow g 3 1 (.slice (some ⟨g, 0, none⟩) (k + 1) L.length) (k + 1) ((ms ++ [n]).map vi) := by
          rw [List.map_append]
          exact hown4
        clear hown4 hgrow4 hown1 hw3
        go_wp2
        exact ⟨⟨k + 1, ms ++ [n], by omega, by go_num, hnext, rfl, Lib.hid ho, hb4, by omega⟩, by simp [intOf]; omega⟩
      | false =>
        obtain ⟨hq1, hq2⟩ := sm_bad HQ.out hx hn
        have HQ1 := Lib.hid hq1
        clear hvx hx hms hn hq1 hq2 HQ
        go_wp2_with ((with_reducible refine (c2 _).mono ?_); clear c2; rintro e w3 ⟨rfl, hw3⟩)
        go_ret2
        exact absurd HQ1.out (by simp)
    · obtain rfl : k = L.length := by omega
      obtain ⟨hq1, hq2⟩ := sm_end HQ.out hms.out
      have hml := hms.out.1
      have hown' : wr.ownsRow g 3 1 (.slice (some ⟨g, 0, none⟩) ms.length L.length) ms.length (ms.map vi) := by
        rw [hml]
        exact hown1.out
      have hli := owned_IBox hown'
      have HQ1 := Lib.hid hq1
      have HQ2 := Lib.hid hq2
      have HML := Lib.hid hml
      clear hown1 hown' hq1 hq2 hml hms HQ
      go_wp2
      go_ret2
      exact ⟨⟨g, L.length, by rw [HQ2.out, HML.out]; rfl, by rw [HQ2.out]; exact hli, HG.out⟩, hb⟩

end Go.Proofs.YtilbhcjnkmeecaaGreat


/- A trajectory's beginning without its momenta, as the program makes it.
Conditions: those written at each theorem. -/
namespace Go.Proofs.YtilbhcjnkmeecaaGreat
set_option linter.unusedVariables false
set_option linter.unusedSimpArgs false
set_option maxRecDepth 1000000
open Go.RowKit
open Um Tm Cm Km

theorem infoNb : (Tryz.prog.info? 122).map (fun i => (i.zero, i.size, i.bytes)) = some (some (.agg #[.int .i64 0, .int .i64 0, .int .i64 0, .int .i64 0, .int .i64 0, .int .i64 0, .int .i64 0]), 7, 56) := by kernel_rfl
/-- the lists of neighbours of the first sites, one behind another -/
def nbs (a b c : Int) : Nat → List Value
  | 0 => []
  | k + 1 => nbs a b c k ++ nb7 a b c k
theorem nbs_len (a b c : Int) : ∀ k, (nbs a b c k).length = k * 7
  | 0 => rfl
  | k + 1 => by rw [nbs, List.length_append, nbs_len a b c k]; simp [nb7]; omega
theorem nbs_get (a b c : Int) : ∀ (k s t : Nat), s < k → t < 7 → (nbs a b c k)[s * 7 + t]? = (nb7 a b c s)[t]?
  | 0, s, t, hs, _ => by omega
  | k + 1, s, t, hs, ht => by
    by_cases h : s = k
    · subst h
      rw [nbs, List.getElem?_append_right (by rw [nbs_len]; omega), nbs_len]
      congr 1
      omega
    · rw [nbs, List.getElem?_append_left (by rw [nbs_len]; omega)]
      exact nbs_get a b c k s t (by omega) ht
theorem nb7_get (a b c s : Int) (t : Nat) (h : t < 7) (h3 : t ≠ 3) : (nb7 a b c s)[t]? = some (.int .i64 (nx a b c s ((t : Int) - 3))) := by
  match t, h, h3 with
  | 0, _, _ => rfl
  | 1, _, _ => rfl
  | 2, _, _ => rfl
  | 4, _, _ => rfl
  | 5, _, _ => rfl
  | 6, _, _ => rfl
theorem owned_NX {a b c : Int} {w : World} {base : Nat} {T : TypeId} {v : Value} {N : Nat} (h : w.ownsRow base T 7 v N (nbs a b c N)) (hN : 0 < N) : ∃ g cap, v = .slice (some ⟨g, 0, none⟩) N cap ∧ base ≤ g ∧ NX a b c w g N := by
  have hc := h.2
  rcases hc with ⟨_, h0⟩ | ⟨g, cap, cur, rfl, hg, _⟩
  · omega
  · refine ⟨g, cap, rfl, hg, fun s hs t ht h3 => ?_⟩
    rw [h.cellAt (s * 7 + t) (by omega), nbs_get a b c N s t hs ht, nb7_get a b c s t ht h3]
theorem nb7_ones (a b c s : Int) : ∀ u ∈ nb7 a b c s, u.oneCell' = true := fun u hu => by
  simp [nb7] at hu
  rcases hu with rfl | rfl | rfl | rfl | rfl | rfl | rfl <;> rfl
theorem ownB_ne {w : World} {B : Nat} {T : TypeId} {size n : Nat} {v : Value} {xs : List Value} (h : w.ownsRow (B + 1) T size v n xs) : some B ≠ v.ownBlock := fun e => by have := owned_from h B e.symm; omega
/-- a course while its neighbours are found -/
structure CP (a b c : Int) (n : Nat) (w : World) (B gl gp kl : Nat) (L : List Q) (v : Value) : Prop where
  z0 : w.cell? ⟨B, 0, none⟩ = some (.int .i64 a)
  z1 : w.cell? ⟨B, 1, none⟩ = some (.int .i64 b)
  z2 : w.cell? ⟨B, 2, none⟩ = some (.int .i64 c)
  cl : w.cell? ⟨B, 3, none⟩ = some (.slice (some ⟨gl, 0, none⟩) n kl)
  c4 : w.cell? ⟨B, 4, none⟩ = some (.slice none 0 0)
  cx : w.cell? ⟨B, 5, none⟩ = some v
  cp : w.cell? ⟨B, 6, none⟩ = some (.pointer (some ⟨gp, 0, none⟩))
  fb : ∀ j, w.frozen? ⟨B, j, none⟩ = false
  li : IBox w gl (L.map nm)
  pr : PR w gp
  lb : B < w.heap.size
  d1 : gl < gp
  d2 : gp < B
theorem CP.far {a b c : Int} {n : Nat} {w w1 : World} {B gl gp kl : Nat} {L : List Q} {v : Value} {row : Option Nat} (k : CP a b c n w B gl gp kl L v) (hg : w.grownBy w1 row) (h1 : some B ≠ row) (h2 : some gl ≠ row) (h3 : some gp ≠ row) : CP a b c n w1 B gl gp kl L v :=
  ⟨hg.cell k.z0 h1, hg.cell k.z1 h1, hg.cell k.z2 h1, hg.cell k.cl h1, hg.cell k.c4 h1, hg.cell k.cx h1, hg.cell k.cp h1, fun j => (World.frozen?_of_block (a := ⟨B, j, none⟩) (hg.block B k.lb h1)).trans (k.fb j), k.li.grown hg h2, k.pr.grown hg h3, Nat.lt_of_lt_of_le k.lb hg.size, k.d1, k.d2⟩
theorem CP.later {a b c : Int} {n : Nat} {w w1 : World} {B gl gp kl : Nat} {L : List Q} {v : Value} (k : CP a b c n w B gl gp kl L v) (hb : Below w.heap.size w w1) : CP a b c n w1 B gl gp kl L v := k.far (row := none) (grown_ofB hb) (by simp) (by simp) (by simp)
theorem CP.next {a b c : Int} {n : Nat} {w : World} {B gl gp kl : Nat} {L : List Q} {v : Value} (k : CP a b c n w B gl gp kl L v) (u : Value) : CP a b c n (w.setCell ⟨B, 5, none⟩ u) B gl gp kl L u := by
  have hg := grown_setCell w ⟨B, 5, none⟩ u
  have h1 := k.d1
  have h2 := k.d2
  have o : ∀ (j : Nat) (x : Value), j ≠ 5 → w.cell? ⟨B, j, none⟩ = some x → (w.setCell ⟨B, 5, none⟩ u).cell? ⟨B, j, none⟩ = some x := fun j x hj hx => by
    rw [World.cell?_setCell_other _ _ _ _ (by simp <;> omega)]
    exact hx
  exact ⟨o _ _ (by omega) k.z0, o _ _ (by omega) k.z1, o _ _ (by omega) k.z2, o _ _ (by omega) k.cl, o _ _ (by omega) k.c4, World.cell?_setCell_same _ _ _ k.cx, o _ _ (by omega) k.cp, fun j => by rw [World.frozen?_setCell]; exact k.fb j, k.li.grown hg (by simp; omega), k.pr.grown hg (by simp; omega), by simp [World.setCell]; exact k.lb, k.d1, k.d2⟩
/-- a course without momenta, new -/
def RetC (a b c : Int) (n N m : Nat) (L : List Q) (e : Ending) (w' : World) : Prop := ∃ B gl gx gp kl kx : Nat, e = .returned (.tuple #[.pointer (some ⟨B, 0, none⟩), .int .i64 0]) ∧ CO a b c n N w' m B gl gx gp kl kx L ∧ w'.cell? ⟨B, 4, none⟩ = some (.slice none 0 0)
set_option maxHeartbeats 6400000 in
theorem resting_ok (a b c : Int) (bl off cap n N : Nat) (L : List Q) (w : World) (hl : Lies w bl off L) (hr : fldR a b c L 0) (hS : ∀ x ∈ L, IsS x) (hn : L.length = n) (hN : (N : Int) = a * b * c) (hq : smR L (L.map nm) true) : Calls Tryz.prog 59 #[.agg #[.int .i64 a, .int .i64 b, .int .i64 c, .slice (some ⟨bl, off, none⟩) L.length cap]] w fun e w' => RetC a b c n N w.heap.size L e w' ∧ Below w.heap.size w w' := by
  subst hn
  obtain ⟨hz, hn3, -⟩ := fldR_ok hr
  have hN16 : N ≤ 16 := by have := hz.p; omega
  have hN0 : 0 < N := by obtain ⟨-, -, p3, -⟩ := mul_rng hz.a1 hz.a4 hz.b1 hz.b4 hz.c1 hz.c4; omega
  have hnN : L.length = N * 3 := by omega
  obtain ⟨i0, hi, hz0, hz1, hz2⟩ := info_parts infoNb
  have H := Lib.hid hl
  have c1 : ∀ W : World, Lies W bl off L → Calls Tryz.prog 69 #[.agg #[.int .i64 a, .int .i64 b, .int .i64 c, .slice (some ⟨bl, off, none⟩) L.length cap]] W fun e w' => RetNB W.heap.size (L.map nm) e w' ∧ Below W.heap.size W w' := fun W h => numbersB_ok a b c _ cap L (L.map nm) W (.inr ⟨bl, off, rfl, h⟩) hr hq
  have c2 := fun W : World => newProducts_any W
  have HC := Lib.hid (fun (k : Nat) (h : k < N) (W : World) => neigh_any a b c k W hz (by omega) (by omega))
  have HL := Lib.hid hnN
  have HK := Lib.hid (fun k : Nat => (show nbs a b c (k + 1) = nbs a b c k ++ nb7 a b c k from rfl))
  have HO := Lib.hid (fun k : Nat => nb7_ones a b c k)
  clear hl hr hS hq hn3
  have hl3 : ((L.length : Nat) : Int) / 3 = (N : Int) := by omega
  clear hnN hN hz
  go_enter Tryz.func59, Tryz.ntmps59
  go_wp2_with ((with_reducible refine (c1 _ (H.out.later (by repeat (first | (with_reducible exact Below.refl _ _) | (with_reducible refine Below.setCell ?_ ?_ _) | (with_reducible refine Below.drew ?_) | (with_reducible refine Below.alloc ?_ ?_ _) | omega | (simp <;> omega))))).mono ?_); clear c1; rintro e w1 ⟨⟨g, k, rfl, hbox, hg⟩, hw1⟩; have hc1 := Tail.cells hw1; have s1 := hw1.size; simp at s1; have z1 : w.heap.size < w1.heap.size := (by omega); simp at hg; clear s1)
  have f0 : w1.cell? ⟨w.heap.size, 0, none⟩ = some (.int .i64 a) := by simp [go_sem, hc1, z1]
  have f1 : w1.cell? ⟨w.heap.size, 1, none⟩ = some (.int .i64 b) := by simp [go_sem, hc1, z1]
  have f2 : w1.cell? ⟨w.heap.size, 2, none⟩ = some (.int .i64 c) := by simp [go_sem, hc1, z1]
  have b1 : Below w.heap.size w w1 := by repeat (first | (with_reducible exact Below.refl _ _) | (with_reducible refine Below.setCell ?_ ?_ _) | (with_reducible refine Below.drew ?_) | (with_reducible refine Below.alloc ?_ ?_ _) | (with_reducible refine Below.trans ?_ (Below.mono hw1 ?_)) | (with_reducible exact hw1.size) | omega | (simp <;> omega) | (simp <;> (have s := hw1.size; omega)) | (have s0 := hw1.size; (try simp at s0); (try simp); omega))
  clear hc1
  go_region_held3 (fun w' => w'.cell? ⟨w.heap.size, 0, none⟩ = some (.int .i64 a) ∧ w'.cell? ⟨w.heap.size, 1, none⟩ = some (.int .i64 b) ∧ w'.cell? ⟨w.heap.size, 2, none⟩ = some (.int .i64 c))
    (first
      | go_keep
      | (exact ⟨held_below (W := w1) (by repeat (first | (with_reducible exact Below.refl _ _) | (with_reducible refine Below.setCell ?_ ?_ _) | (with_reducible refine Below.drew ?_) | (with_reducible refine Below.alloc ?_ ?_ _) | (with_reducible refine Below.trans ?_ (Below.mono hw2 ?_)) | (with_reducible exact hw2.size) | omega | (simp <;> omega) | (simp <;> (have s := hw2.size; omega)) | (have s0 := hw2.size; (try simp at s0); (try simp); omega))) f0, held_below (W := w1) (by repeat (first | (with_reducible exact Below.refl _ _) | (with_reducible refine Below.setCell ?_ ?_ _) | (with_reducible refine Below.drew ?_) | (with_reducible refine Below.alloc ?_ ?_ _) | (with_reducible refine Below.trans ?_ (Below.mono hw2 ?_)) | (with_reducible exact hw2.size) | omega | (simp <;> omega) | (simp <;> (have s := hw2.size; omega)) | (have s0 := hw2.size; (try simp at s0); (try simp); omega))) f1, held_below (W := w1) (by repeat (first | (with_reducible exact Below.refl _ _) | (with_reducible refine Below.setCell ?_ ?_ _) | (with_reducible refine Below.drew ?_) | (with_reducible refine Below.alloc ?_ ?_ _) | (with_reducible refine Below.trans ?_ (Below.mono hw2 ?_)) | (with_reducible exact hw2.size) | omega | (simp <;> omega) | (simp <;> (have s := hw2.size; omega)) | (have s0 := hw2.size; (try simp at s0); (try simp); omega))) f2⟩))
    (((with_reducible refine (c2 _).mono ?_); clear c2; rintro e w2 ⟨gp, rfl, hgp, hp, hw2⟩; have hPR := Lib.hid hp; clear hp))
  have bw2 : Below w1.heap.size w1 w2 := ⟨hw2.os, hw2.tape, hw2.output, hw2.size, hw2.block⟩
  have P3 : CP a b c L.length (w2.alloc (.cells #[.int .i64 a, .int .i64 b, .int .i64 c, .slice (some ⟨g, 0, none⟩) L.length k, .slice none 0 0, .slice none 0 0, .pointer (some ⟨gp, 0, none⟩)] 66)) w2.heap.size g gp k L (.slice none 0 0) := by
    have l1 := hbox.lt
    have l2 := hPR.out.lt
    have l3 : w1.heap.size ≤ gp := hgp
    exact ⟨by simp [go_sem], by simp [go_sem], by simp [go_sem], by simp [go_sem], by simp [go_sem], by simp [go_sem], by simp [go_sem], fun j => by simp [go_sem], (hbox.later bw2).later (by repeat (first | (with_reducible exact Below.refl _ _) | (with_reducible refine Below.setCell ?_ ?_ _) | (with_reducible refine Below.drew ?_) | (with_reducible refine Below.alloc ?_ ?_ _) | omega | (simp <;> omega))), hPR.out.later (by repeat (first | (with_reducible exact Below.refl _ _) | (with_reducible refine Below.setCell ?_ ?_ _) | (with_reducible refine Below.drew ?_) | (with_reducible refine Below.alloc ?_ ?_ _) | omega | (simp <;> omega))), by simp, by omega, l2⟩
  have F3 : ∀ (W : World), Below w1.heap.size w1 W → W.cell? ⟨w.heap.size, 0, none⟩ = some (.int .i64 a) ∧ W.cell? ⟨w.heap.size, 1, none⟩ = some (.int .i64 b) ∧ W.cell? ⟨w.heap.size, 2, none⟩ = some (.int .i64 c) := fun W hW => ⟨held_below hW f0, held_below hW f1, held_below hW f2⟩
  have b3 : Below w1.heap.size w1 (w2.alloc (.cells #[.int .i64 a, .int .i64 b, .int .i64 c, .slice (some ⟨g, 0, none⟩) L.length k, .slice none 0 0, .slice none 0 0, .pointer (some ⟨gp, 0, none⟩)] 66)) := by repeat (first | (with_reducible exact Below.refl _ _) | (with_reducible refine Below.setCell ?_ ?_ _) | (with_reducible refine Below.drew ?_) | (with_reducible refine Below.alloc ?_ ?_ _) | (with_reducible refine Below.trans ?_ (Below.mono bw2 ?_)) | (with_reducible exact bw2.size) | omega | (simp <;> omega) | (simp <;> (have s := bw2.size; omega)) | (have s0 := bw2.size; (try simp at s0); (try simp); omega))
  have o3 : (w2.alloc (.cells #[.int .i64 a, .int .i64 b, .int .i64 c, .slice (some ⟨g, 0, none⟩) L.length k, .slice none 0 0, .slice none 0 0, .pointer (some ⟨gp, 0, none⟩)] 66)).ownsRow (w2.heap.size + 1) 122 7 (.slice none 0 0) 0 (nbs a b c 0) := World.ownsRow_nil _ _ _ _
  have s3 : (w2.alloc (.cells #[.int .i64 a, .int .i64 b, .int .i64 c, .slice (some ⟨g, 0, none⟩) L.length k, .slice none 0 0, .slice none 0 0, .pointer (some ⟨gp, 0, none⟩)] 66)).heap.size = w2.heap.size + 1 := by simp
  have lb12 : w1.heap.size ≤ w2.heap.size := hw2.size
  have HF := Lib.hid F3
  have HP3 := Lib.hid P3
  have HO3 := Lib.hid o3
  have HS3 := Lib.hid s3
  have HG := Lib.hid hg
  have HB1 := Lib.hid b1
  clear F3 P3 o3 s3 f0 f1 f2 hw2 bw2 hbox hPR hg hgp b1
  generalize w2.alloc (.cells #[.int .i64 a, .int .i64 b, .int .i64 c, .slice (some ⟨g, 0, none⟩) L.length k, .slice none 0 0, .slice none 0 0, .pointer (some ⟨gp, 0, none⟩)] 66) = W3 at *
  generalize w2.heap.size = B at *
  have hBW : B < W3.heap.size := by have := HS3.out; omega
  go_wp2
  go_loopw [7, 8, 9, 27] (fun _ _ _ q wr => ∃ (j : Nat) (v : Value), j ≤ N ∧ q = .int .i64 j ∧ Hid (CP a b c L.length wr B g gp k L v) ∧ Hid (wr.ownsRow (B + 1) 122 7 v j (nbs a b c j)) ∧ Below w1.heap.size w1 wr ∧ B < wr.heap.size) (fun _ _ _ q _ => N - (intOf q).toNat)
  case atStart => exact ⟨0, _, by omega, rfl, HP3, HO3, b3, hBW⟩
  case round =>
    obtain ⟨j, v, hj, rfl, hP, hO, hb, hB⟩ := hrel
    clear HP3 HO3 HS3 b3 hBW
    by_cases hlt : j < N
    · have i1 : (j : Int) < (N : Int) := by omega
      have c3 := HC.out j hlt
      have o7 := HO.out j
      have hk7 := HK.out j
      unfold nb7 at c3 o7 hk7
      generalize nx a b c j (-3) = n0 at *
      generalize nx a b c j (-2) = n1 at *
      generalize nx a b c j (-1) = n2 at *
      generalize nx a b c j 1 = n4 at *
      generalize nx a b c j 2 = n5 at *
      generalize nx a b c j 3 = n6 at *
      have HK7 := Lib.hid hk7
      have HO7 := Lib.hid o7
      have HBb := Lib.hid hb
      clear hk7 o7
      obtain ⟨f0, f1, f2⟩ := HF.out wr hb
      have lw : w.heap.size < wr.heap.size := World.block_lt_of_cell? wr _ f0
      go_wp2_with ((with_reducible refine (c3 _).mono ?_); clear c3; rintro e w3 ⟨rfl, hw3⟩; have bw3 := Lib.hid hw3; have P4 := (hP.out.later hw3); have O4 := Lib.hid (owned_later hO.out hw3); have x5 := P4.cx; have xf := P4.fb; have l3 := hw3.size; have HP4 := Lib.hid P4; clear P4 hP hO f0 f1 f2 hw3 hb)
      have lB3 : B < w3.heap.size := by omega
      have r0 : (w3.alloc (.cells #[.int .i64 n0, .int .i64 n1, .int .i64 n2, .int .i64 0, .int .i64 n4, .int .i64 n5, .int .i64 n6] 122)).cell? ⟨w3.heap.size, 0, none⟩ = some (.int .i64 n0) := by simp [go_sem]
      have r1 : (w3.alloc (.cells #[.int .i64 n0, .int .i64 n1, .int .i64 n2, .int .i64 0, .int .i64 n4, .int .i64 n5, .int .i64 n6] 122)).cell? ⟨w3.heap.size, 1, none⟩ = some (.int .i64 n1) := by simp [go_sem]
      have r2 : (w3.alloc (.cells #[.int .i64 n0, .int .i64 n1, .int .i64 n2, .int .i64 0, .int .i64 n4, .int .i64 n5, .int .i64 n6] 122)).cell? ⟨w3.heap.size, 2, none⟩ = some (.int .i64 n2) := by simp [go_sem]
      have r3 : (w3.alloc (.cells #[.int .i64 n0, .int .i64 n1, .int .i64 n2, .int .i64 0, .int .i64 n4, .int .i64 n5, .int .i64 n6] 122)).cell? ⟨w3.heap.size, 3, none⟩ = some (.int .i64 0) := by simp [go_sem]
      have r4 : (w3.alloc (.cells #[.int .i64 n0, .int .i64 n1, .int .i64 n2, .int .i64 0, .int .i64 n4, .int .i64 n5, .int .i64 n6] 122)).cell? ⟨w3.heap.size, 4, none⟩ = some (.int .i64 n4) := by simp [go_sem]
      have r5 : (w3.alloc (.cells #[.int .i64 n0, .int .i64 n1, .int .i64 n2, .int .i64 0, .int .i64 n4, .int .i64 n5, .int .i64 n6] 122)).cell? ⟨w3.heap.size, 5, none⟩ = some (.int .i64 n5) := by simp [go_sem]
      have r6 : (w3.alloc (.cells #[.int .i64 n0, .int .i64 n1, .int .i64 n2, .int .i64 0, .int .i64 n4, .int .i64 n5, .int .i64 n6] 122)).cell? ⟨w3.heap.size, 6, none⟩ = some (.int .i64 n6) := by simp [go_sem]
      have y5 : (w3.alloc (.cells #[.int .i64 n0, .int .i64 n1, .int .i64 n2, .int .i64 0, .int .i64 n4, .int .i64 n5, .int .i64 n6] 122)).cell? ⟨B, 5, none⟩ = some v := held_below (W := w3) (by repeat (first | (with_reducible exact Below.refl _ _) | (with_reducible refine Below.setCell ?_ ?_ _) | (with_reducible refine Below.drew ?_) | (with_reducible refine Below.alloc ?_ ?_ _) | omega | (simp <;> omega))) x5
      have b4 : Below w3.heap.size w3 (w3.alloc (.cells #[.int .i64 n0, .int .i64 n1, .int .i64 n2, .int .i64 0, .int .i64 n4, .int .i64 n5, .int .i64 n6] 122)) := by repeat (first | (with_reducible exact Below.refl _ _) | (with_reducible refine Below.setCell ?_ ?_ _) | (with_reducible refine Below.drew ?_) | (with_reducible refine Below.alloc ?_ ?_ _) | omega | (simp <;> omega))
      have s4 : (w3.alloc (.cells #[.int .i64 n0, .int .i64 n1, .int .i64 n2, .int .i64 0, .int .i64 n4, .int .i64 n5, .int .i64 n6] 122)).heap.size = w3.heap.size + 1 := by simp
      have HS4 := Lib.hid s4
      clear x5 s4
      generalize w3.alloc (.cells #[.int .i64 n0, .int .i64 n1, .int .i64 n2, .int .i64 0, .int .i64 n4, .int .i64 n5, .int .i64 n6] 122) = W4 at *
      have fr4 := Lib.hid (fun i => show (W4.drew.alloc (.cells #[.int .i64 n0, .int .i64 n1, .int .i64 n2, .int .i64 0, .int .i64 n4, .int .i64 n5, .int .i64 n6] 122)).frozen? ⟨B, i, none⟩ = false from ((HP4.out.later b4).later (by repeat (first | (with_reducible exact Below.refl _ _) | (with_reducible refine Below.setCell ?_ ?_ _) | (with_reducible refine Below.drew ?_) | (with_reducible refine Below.alloc ?_ ?_ _) | omega | (simp <;> omega)))).fb i)
      have lR : w3.heap.size < W4.heap.size := World.block_lt_of_cell? W4 _ r0
      have lB4 : B < W4.heap.size := by omega
      go_region_law (refine step_append_lies _ rfl (.tmp 44) (.tmp 46) 63 rfl (B + 1) 122 i0 _ 7 56 Tryz.underlying63 hi hz0 hz1 hz2 rfl (by omega) v j (nbs a b c j) (by rfl) (owned_later O4.out (by repeat (first | (with_reducible exact Below.refl _ _) | (with_reducible refine Below.setCell ?_ ?_ _) | (with_reducible refine Below.drew ?_) | (with_reducible refine Below.alloc ?_ ?_ _) | (with_reducible refine Below.trans ?_ (Below.mono b4 ?_)) | (with_reducible exact b4.size) | omega | (simp <;> omega) | (simp <;> (have s := b4.size; omega)) | (have s0 := b4.size; (try simp at s0); (try simp); omega)))) ⟨W4.heap.size, 0, none⟩ 1 1 [.int .i64 n0, .int .i64 n1, .int .i64 n2, .int .i64 0, .int .i64 n4, .int .i64 n5, .int .i64 n6] (by rfl) (by rfl) (World.news_of_block (heap_alloc_new W4.drew _)) HO7.out (by omega) (by unfold maxLen; omega) (by omega) (by simp; omega) (W4.heap.size + 1) (by simp) ?_; intro gg cap1 w5 hown5 hgrow5 hat5 hlt5; have q5 : w5.cell? ⟨B, 5, none⟩ = some v := hgrow5.cell (held_below (W := W4) (by repeat (first | (with_reducible exact Below.refl _ _) | (with_reducible refine Below.setCell ?_ ?_ _) | (with_reducible refine Below.drew ?_) | (with_reducible refine Below.alloc ?_ ?_ _) | omega | (simp <;> omega))) y5) (ownB_ne O4.out); have qf : ∀ i, w5.frozen? ⟨B, i, none⟩ = false := fun i => (World.frozen?_of_block (a := ⟨B, i, none⟩) (hgrow5.block B (by simp; omega) (ownB_ne O4.out))).trans (fr4.out i); have l5 : B < w5.heap.size := World.block_lt_of_cell? w5 _ q5)
      all_goals
        have PX := ((HP4.out.later b4).later (w1 := W4.drew.alloc (.cells #[.int .i64 n0, .int .i64 n1, .int .i64 n2, .int .i64 0, .int .i64 n4, .int .i64 n5, .int .i64 n6] 122)) (by repeat (first | (with_reducible exact Below.refl _ _) | (with_reducible refine Below.setCell ?_ ?_ _) | (with_reducible refine Below.drew ?_) | (with_reducible refine Below.alloc ?_ ?_ _) | omega | (simp <;> omega))))
        have d1 := PX.d1
        have d2 := PX.d2
        have P5 := PX.far hgrow5 (ownB_ne O4.out) (fun e => by have := owned_from O4.out g e.symm; omega) (fun e => by have := owned_from O4.out gp e.symm; omega)
        have P6 := Lib.hid (P5.next (.slice (some ⟨gg, 0, none⟩) (j + 1) cap1))
        rw [← HK7.out] at hown5
        have O6 := Lib.hid (ownsRow_setCell_below (a := ⟨B, 5, none⟩) hown5 (Nat.lt_succ_self B) (.slice (some ⟨gg, 0, none⟩) (j + 1) cap1))
        have bX : Below w1.heap.size w1 (W4.drew.alloc (.cells #[.int .i64 n0, .int .i64 n1, .int .i64 n2, .int .i64 0, .int .i64 n4, .int .i64 n5, .int .i64 n6] 122)) := by repeat (first | (with_reducible exact Below.refl _ _) | (with_reducible refine Below.setCell ?_ ?_ _) | (with_reducible refine Below.drew ?_) | (with_reducible refine Below.alloc ?_ ?_ _) | (with_reducible refine Below.trans ?_ (Below.mono b4 ?_)) | (with_reducible refine Below.trans ?_ (Below.mono bw3.out ?_)) | (with_reducible refine Below.trans ?_ (Below.mono HBb.out ?_)) | (with_reducible exact b4.size) | (with_reducible exact bw3.out.size) | (with_reducible exact HBb.out.size) | omega | (simp <;> omega) | (simp <;> (have s := b4.size; omega)) | (simp <;> (have s := bw3.out.size; omega)) | (simp <;> (have s := HBb.out.size; omega)) | (have s0 := b4.size; (try simp at s0); have s1 := bw3.out.size; (try simp at s1); have s2 := HBb.out.size; (try simp at s2); (try simp); omega))
        have b5 : Below w1.heap.size w1 w5 := bX.grown hgrow5 (by have := bX.size; simpa using this) (fun i hi => by have := owned_from O4.out i hi; omega)
        have b6 : Below w1.heap.size w1 (w5.setCell ⟨B, 5, none⟩ (.slice (some ⟨gg, 0, none⟩) (j + 1) cap1)) := b5.setCell lb12 _
        clear PX P5 hown5 hgrow5
        go_wp2
        exact ⟨⟨j + 1, _, by omega, by go_num, P6, O6, b6, by simpa [World.setCell] using l5⟩, by simp [intOf]; omega⟩
    · obtain rfl : j = N := by omega
      obtain ⟨gx, kx, rfl, hgx, hNX⟩ := owned_NX hO.out hN0
      have P := hP.out
      have h1 := P.d1
      have h2 := P.d2
      have hg2 := HG.out
      have hfin : CO a b c L.length j wr w.heap.size B g gx gp k kx L := ⟨P.z0, P.z1, P.z2, P.cl, P.cx, P.cp, P.fb, P.li, hNX, P.pr, by omega, by omega, by omega, by omega, by omega, by omega, by omega, by omega, by omega, P.lb⟩
      have hc4 := P.c4
      have HFIN := Lib.hid (show RetC a b c L.length j w.heap.size L (.returned (.tuple #[.pointer (some ⟨B, 0, none⟩), .int .i64 0])) wr from ⟨B, g, gx, gp, k, kx, rfl, hfin, hc4⟩)
      clear P hc4 hfin hNX hP hO h1 h2 hg2
      go_wp2
      go_ret2
      exact ⟨HFIN.out, by repeat (first | (with_reducible exact Below.refl _ _) | (with_reducible refine Below.setCell ?_ ?_ _) | (with_reducible refine Below.drew ?_) | (with_reducible refine Below.alloc ?_ ?_ _) | (with_reducible refine Below.trans ?_ (Below.mono hb ?_)) | (with_reducible refine Below.trans ?_ (Below.mono HB1.out ?_)) | (with_reducible exact hb.size) | (with_reducible exact HB1.out.size) | omega | (simp <;> omega) | (simp <;> (have s := hb.size; omega)) | (simp <;> (have s := HB1.out.size; omega)) | (have s0 := hb.size; (try simp at s0); have s1 := HB1.out.size; (try simp at s1); (try simp); omega))⟩
end Go.Proofs.YtilbhcjnkmeecaaGreat

/- The number of the unit along a plaquette, as a course finds it.
Conditions: those written at each theorem. -/
namespace Go.Proofs.YtilbhcjnkmeecaaGreat
set_option linter.unusedVariables false
set_option linter.unusedSimpArgs false
set_option maxRecDepth 1000000
open Go.RowKit
open Um Tm Cm Km

theorem co_link {a b c : Int} {n N : Nat} {w : World} {m B gl gx gp kl kx : Nat} {L : List Q} (k : CO a b c n N w m B gl gx gp kl kx L) {i : Int} (h0 : 0 ≤ i) (h1 : i < (L.length : Int)) : w.cell? ⟨gl, i.toNat, none⟩ = some (.int .i64 (nm (lk L i))) := by
  refine k.li.at ?_
  rw [List.getElem?_map, lk_get h0 h1]
  rfl
theorem co_next {a b c : Int} {n N : Nat} {w : World} {m B gl gx gp kl kx : Nat} {L : List Q} (k : CO a b c n N w m B gl gx gp kl kx L) {s : Nat} (h1 : s < N) {t : Int} (ht : IsStep t) : w.cell? ⟨gx, s * 7 + (t + 3).toNat, none⟩ = some (.int .i64 (nx a b c s t)) := by
  obtain ⟨t0, t1, t2⟩ := ht
  have := k.nx s h1 (t + 3).toNat (by omega) (by omega)
  rw [show (((t + 3).toNat : Nat) : Int) - 3 = t by omega] at this
  exact this
theorem pr_inv {w : World} {b : Nat} (k : PR w b) {x : Q} (h : IsS x) : w.cell? ⟨b, 120 + (nm x).toNat, none⟩ = some (.int .i64 (nm (bar x))) := by
  obtain ⟨i, hi, e, rfl⟩ := h.nmN
  rw [e]
  exact k.iv i hi
theorem ixA0 (x y z t : Int) : ∀ w, (Instr.index 127 (.agg #[.int .i64 x, .int .i64 y, .int .i64 z, .int .i64 t]) (.int .i64 0)).run Tryz.prog w = .ok (.int .i64 x) w := fun _ => by kernel_rfl
theorem ixA1 (x y z t : Int) : ∀ w, (Instr.index 127 (.agg #[.int .i64 x, .int .i64 y, .int .i64 z, .int .i64 t]) (.int .i64 1)).run Tryz.prog w = .ok (.int .i64 y) w := fun _ => by kernel_rfl
theorem ixA2 (x y z t : Int) : ∀ w, (Instr.index 127 (.agg #[.int .i64 x, .int .i64 y, .int .i64 z, .int .i64 t]) (.int .i64 2)).run Tryz.prog w = .ok (.int .i64 z) w := fun _ => by kernel_rfl
theorem ixA3 (x y z t : Int) : ∀ w, (Instr.index 127 (.agg #[.int .i64 x, .int .i64 y, .int .i64 z, .int .i64 t]) (.int .i64 3)).run Tryz.prog w = .ok (.int .i64 t) w := fun _ => by kernel_rfl
set_option maxHeartbeats 6400000 in
theorem along_pos (a b c : Int) (n N : Nat) (w : World) (m B gl gx gp kl kx : Nat) (L : List Q) (s : Nat) (d e : Int) (hC : CO a b c n N w m B gl gx gp kl kx L) (hF : Fl a b c L) (hS : ∀ x ∈ L, IsS x) (hn : L.length = n) (hN : (N : Int) = a * b * c) (hs : s < N) (d1 : 1 ≤ d) (d3 : d ≤ 3) (e1 : 1 ≤ e) (e3 : e ≤ 3) :
    Calls Tryz.prog 81 #[.pointer (some ⟨B, 0, none⟩), .int .i64 s, .agg #[.int .i64 d, .int .i64 (e), .int .i64 (-d), .int .i64 (-e)]] w fun e' w' => e' = .returned (.int .i64 (nm (pl4 a b c L s d (e)))) ∧ w.grownBy w' (some gp) ∧ PR w' gp := by
  have hd : IsStep d := ⟨by omega, by omega, by omega⟩
  have he : IsStep (e) := ⟨by omega, by omega, by omega⟩
  have hf : IsStep (-e) := ⟨by omega, by omega, by omega⟩
  have hl3 := hF.n
  have hn16 : N ≤ 16 := by have := hF.z.p; omega
  obtain ⟨s1, h1⟩ := Int.eq_ofNat_of_zero_le (nx_rng hF.z s d).1
  have hs1 : s1 < N := by have := (nx_rng hF.z s d).2; omega
  obtain ⟨s2, h2⟩ := Int.eq_ofNat_of_zero_le (nx_rng hF.z s1 (e)).1
  have hs2 : s2 < N := by have := (nx_rng hF.z s1 (e)).2; omega
  obtain ⟨s3, h3⟩ := Int.eq_ofNat_of_zero_le (nx_rng hF.z s2 (-d)).1
  have hs3 : s3 < N := by have := (nx_rng hF.z s2 (-d)).2; omega
  obtain ⟨s4, h4⟩ := Int.eq_ofNat_of_zero_le (nx_rng hF.z s3 (-e)).1
  have hs4 : s4 < N := by have := (nx_rng hF.z s3 (-e)).2; omega
  have hal : pl4 a b c L s d (e) = low (mul (low (mul (low (mul (low (mul one (lk L (3 * s + d - 1)))) (lk L (3 * s1 + (e) - 1)))) (bar (lk L (3 * s3 - (-d) - 1))))) (bar (lk L (3 * s4 - (-e) - 1)))) := by
    unfold pl4
    rw [al_four hF (by omega) (by omega) hd he (neg_step hd)]
    simp only [up, h1, h2, h3, h4]
    rw [if_pos (by omega), if_pos (by omega), if_neg (by omega), if_neg (by omega)]
  have A1 : ∀ X, CO a b c n N X m B gl gx gp kl kx L → X.cell? ⟨gx, s * 7 + (d + 3).toNat, none⟩ = some (.int .i64 s1) := fun X h => by rw [co_next h (by omega) hd, h1]
  have B1 : ∀ X, CO a b c n N X m B gl gx gp kl kx L → X.cell? ⟨gl, (3 * (s : Int) + d).toNat - 1, none⟩ = some (.int .i64 (nm (lk L (3 * s + d - 1)))) := fun X h => by rw [show (3 * (s : Int) + d).toNat - 1 = (3 * s + d - 1).toNat by omega]; exact co_link h (by omega) (by omega)
  have S1 : IsS (lk L (3 * s + d - 1)) := lk_S hS (by omega) (by omega)
  have A2 : ∀ X, CO a b c n N X m B gl gx gp kl kx L → X.cell? ⟨gx, s1 * 7 + ((e) + 3).toNat, none⟩ = some (.int .i64 s2) := fun X h => by rw [co_next h (by omega) he, h2]
  have B2 : ∀ X, CO a b c n N X m B gl gx gp kl kx L → X.cell? ⟨gl, (3 * (s1 : Int) + e).toNat - 1, none⟩ = some (.int .i64 (nm (lk L (3 * s1 + (e) - 1)))) := fun X h => by rw [show (3 * (s1 : Int) + e).toNat - 1 = (3 * s1 + (e) - 1).toNat by omega]; exact co_link h (by omega) (by omega)
  have S2 : IsS (lk L (3 * s1 + (e) - 1)) := lk_S hS (by omega) (by omega)
  have A3 : ∀ X, CO a b c n N X m B gl gx gp kl kx L → X.cell? ⟨gx, s2 * 7 + ((-d) + 3).toNat, none⟩ = some (.int .i64 s3) := fun X h => by rw [co_next h (by omega) (neg_step hd), h3]
  have B3 : ∀ X, CO a b c n N X m B gl gx gp kl kx L → X.cell? ⟨gl, (3 * (s3 : Int) + d).toNat - 1, none⟩ = some (.int .i64 (nm (lk L (3 * s3 - (-d) - 1)))) := fun X h => by rw [show (3 * (s3 : Int) + d).toNat - 1 = (3 * s3 - (-d) - 1).toNat by omega]; exact co_link h (by omega) (by omega)
  have S3 : IsS (lk L (3 * s3 - (-d) - 1)) := lk_S hS (by omega) (by omega)
  have A4 : ∀ X, CO a b c n N X m B gl gx gp kl kx L → X.cell? ⟨gx, s3 * 7 + ((-e) + 3).toNat, none⟩ = some (.int .i64 s4) := fun X h => by rw [co_next h (by omega) hf, h4]
  have B4 : ∀ X, CO a b c n N X m B gl gx gp kl kx L → X.cell? ⟨gl, (3 * (s4 : Int) + e).toNat - 1, none⟩ = some (.int .i64 (nm (lk L (3 * s4 - (-e) - 1)))) := fun X h => by rw [show (3 * (s4 : Int) + e).toNat - 1 = (3 * s4 - (-e) - 1).toNat by omega]; exact co_link h (by omega) (by omega)
  have S4 : IsS (lk L (3 * s4 - (-e) - 1)) := lk_S hS (by omega) (by omega)
  rw [hal]
  clear hal h1 h2 h3 h4 hF
  generalize lk L (3 * s + d - 1) = y1 at *
  generalize lk L (3 * s1 + (e) - 1) = y2 at *
  generalize lk L (3 * s3 - (-d) - 1) = y3 at *
  generalize lk L (3 * s4 - (-e) - 1) = y4 at *
  have V3 : ∀ X, CO a b c n N X m B gl gx gp kl kx L → X.cell? ⟨gp, 120 + (nm y3).toNat, none⟩ = some (.int .i64 (nm (bar y3))) := fun X h => pr_inv h.pr S3
  have r3 := S3.nm
  have r3a := r3.1
  have r3b := r3.2.1
  clear r3
  have V4 : ∀ X, CO a b c n N X m B gl gx gp kl kx L → X.cell? ⟨gp, 120 + (nm y4).toNat, none⟩ = some (.int .i64 (nm (bar y4))) := fun X h => pr_inv h.pr S4
  have r4 := S4.nm
  have r4a := r4.1
  have r4b := r4.2.1
  clear r4
  have c1 := fun (W : World) (h : PR W gp) => timesN_any gp one y1 W h IsS.one S1
  rw [nm_one] at c1
  have P1 := IsS.mul IsS.one S1
  generalize low (mul one y1) = p1 at *
  have c2 := fun (W : World) (h : PR W gp) => timesN_any gp p1 y2 W h P1 S2
  have P2 := IsS.mul P1 S2
  generalize low (mul p1 y2) = p2 at *
  have c3 := fun (W : World) (h : PR W gp) => timesN_any gp p2 (bar y3) W h P2 S3.bar
  have P3 := IsS.mul P2 S3.bar
  generalize low (mul p2 (bar y3)) = p3 at *
  have c4 := fun (W : World) (h : PR W gp) => timesN_any gp p3 (bar y4) W h P3 S4.bar
  generalize low (mul p3 (bar y4)) = p4 at *
  have HC0 : ∀ X, w.grownBy X (some gp) → PR X gp → CO a b c n N X m B gl gx gp kl kx L := fun X hg hp => hC.touch hg hp
  have HT := Lib.hid HC0
  have HA1 := Lib.hid A1
  have HB1 := Lib.hid B1
  have HA2 := Lib.hid A2
  have HB2 := Lib.hid B2
  have HA3 := Lib.hid A3
  have HB3 := Lib.hid B3
  have HV3 := Lib.hid V3
  have HA4 := Lib.hid A4
  have HB4 := Lib.hid B4
  have HV4 := Lib.hid V4
  have lB := hC.lb
  have lgl := hC.li.lt
  have lgp := hC.pr.lt
  have lgx := hC.nx.lt (by omega)
  have hp0 := hC.pr
  have hln := hn
  have bN : ∀ j : Nat, j < N → 3 * j + 2 < n := fun j hj => by omega
  have t0 := bN s (by omega)
  have t1 := bN s1 (by omega)
  have t2 := bN s2 (by omega)
  have t3 := bN s3 (by omega)
  have t4 := bN s4 (by omega)
  clear bN
  clear hC hS hN hn hln hl3 HC0 hd he hf A1 A2 A3 A4 B1 B2 B3 B4 V3 V4 S1 S2 S3 S4 P1 P2 P3
  have i0 := ixA0 d (e) (-d) (-e)
  have i1 := ixA1 d (e) (-d) (-e)
  have i2 := ixA2 d (e) (-d) (-e)
  have i3 := ixA3 d (e) (-d) (-e)
  have kc := @Tail.cell_re
  have kc1 : ∀ (W : World) (o : Obj) (d : Nat) (os : Array Obj) (a : Addr), a.block ≤ W.heap.size → (Sort.grow (redrawn (W.alloc o) d) os).cell? a = (W.alloc o).cell? a := fun W o d os a h => Tail.cell_re (W.alloc o) d os a (Nat.lt_of_le_of_lt h (by simp))
  go_enter Tryz.func81, Tryz.ntmps81
  go_wp2
  have G0 : w.grownBy (w.alloc (.cells #[.int .i64 d, .int .i64 (e), .int .i64 (-d), .int .i64 (-e)] 127)) (some gp) := grown_ofB (by repeat (first | (with_reducible exact Below.refl _ _) | (with_reducible refine Below.setCell ?_ ?_ _) | (with_reducible refine Below.drew ?_) | (with_reducible refine Below.alloc ?_ ?_ _) | omega | (simp <;> omega)))
  have Q0 : PR (w.alloc (.cells #[.int .i64 d, .int .i64 (e), .int .i64 (-d), .int .i64 (-e)] 127)) gp := hp0.later (by repeat (first | (with_reducible exact Below.refl _ _) | (with_reducible refine Below.setCell ?_ ?_ _) | (with_reducible refine Below.drew ?_) | (with_reducible refine Below.alloc ?_ ?_ _) | omega | (simp <;> omega)))
  have HG0 := Lib.hid G0
  have HQ0 := Lib.hid Q0
  clear G0 Q0 hp0
  generalize w.alloc (.cells #[.int .i64 d, .int .i64 (e), .int .i64 (-d), .int .i64 (-e)] 127) = X0 at *
  refine wp_loop_rounds 5 ?_
  rw [rounds_succ]
  have K1 := HT.out X0 HG0.out HQ0.out
  have cl1 := K1.cl
  have cx1 := K1.cx
  have cp1 := K1.cp
  have a1 := HA1.out X0 K1
  have b1 := HB1.out X0 K1
  have l1 := K1.lb
  have m1 := K1.li.lt
  have o1 := K1.pr.lt
  have q1 := World.block_lt_of_cell? X0 _ a1
  clear K1
  go_wp2
  refine Tail.region_tail_below 16 (by kernel_rfl) (by kernel_rfl) ?_
  simp only [List.take_succ_cons, List.take_zero]
  repeat (go_big_quiet_step (fail))
  refine wpQuiet_nil ?_
  intro Z1 hZ1
  have Y1 := Lib.hid (HQ0.out.later hZ1)
  have U1 := Lib.hid (HG0.out.trans (grown_ofB (row := some gp) hZ1))
  clear cl1 cx1 cp1 a1 b1 l1 m1 o1 q1 hZ1 HG0 HQ0
  go_wp2_with ((with_reducible refine (c1 _ Y1.out).mono ?_); clear c1; rintro e' X1 ⟨rfl, hg1, hq1⟩; have HG1 := Lib.hid (U1.out.trans hg1); have HQ1 := Lib.hid hq1; clear hg1 hq1)
  rw [rounds_succ]
  have K2 := HT.out X1 HG1.out HQ1.out
  have cl2 := K2.cl
  have cx2 := K2.cx
  have cp2 := K2.cp
  have a2 := HA2.out X1 K2
  have b2 := HB2.out X1 K2
  have l2 := K2.lb
  have m2 := K2.li.lt
  have o2 := K2.pr.lt
  have q2 := World.block_lt_of_cell? X1 _ a2
  clear K2
  go_wp2
  refine Tail.region_tail_below 16 (by kernel_rfl) (by kernel_rfl) ?_
  simp only [List.take_succ_cons, List.take_zero]
  repeat (go_big_quiet_step (fail))
  refine wpQuiet_nil ?_
  intro Z2 hZ2
  have Y2 := Lib.hid (HQ1.out.later hZ2)
  have U2 := Lib.hid (HG1.out.trans (grown_ofB (row := some gp) hZ2))
  clear cl2 cx2 cp2 a2 b2 l2 m2 o2 q2 hZ2 HG1 HQ1
  go_wp2_with ((with_reducible refine (c2 _ Y2.out).mono ?_); clear c2; rintro e' X2 ⟨rfl, hg2, hq2⟩; have HG2 := Lib.hid (U2.out.trans hg2); have HQ2 := Lib.hid hq2; clear hg2 hq2)
  rw [rounds_succ]
  have K3 := HT.out X2 HG2.out HQ2.out
  have cl3 := K3.cl
  have cx3 := K3.cx
  have cp3 := K3.cp
  have a3 := HA3.out X2 K3
  have b3 := HB3.out X2 K3
  have v3 := HV3.out X2 K3
  have l3 := K3.lb
  have m3 := K3.li.lt
  have o3 := K3.pr.lt
  have q3 := World.block_lt_of_cell? X2 _ a3
  clear K3
  go_wp2
  refine Tail.region_tail_below 24 (by kernel_rfl) (by kernel_rfl) ?_
  simp only [List.take_succ_cons, List.take_zero]
  repeat (go_big_quiet_step (fail))
  refine wpQuiet_nil ?_
  intro Z3 hZ3
  have Y3 := Lib.hid (HQ2.out.later hZ3)
  have U3 := Lib.hid (HG2.out.trans (grown_ofB (row := some gp) hZ3))
  clear cl3 cx3 cp3 a3 b3 v3 l3 m3 o3 q3 hZ3 HG2 HQ2
  go_wp2_with ((with_reducible refine (c3 _ Y3.out).mono ?_); clear c3; rintro e' X3 ⟨rfl, hg3, hq3⟩; have HG3 := Lib.hid (U3.out.trans hg3); have HQ3 := Lib.hid hq3; clear hg3 hq3)
  rw [rounds_succ]
  have K4 := HT.out X3 HG3.out HQ3.out
  have cl4 := K4.cl
  have cx4 := K4.cx
  have cp4 := K4.cp
  have a4 := HA4.out X3 K4
  have b4 := HB4.out X3 K4
  have v4 := HV4.out X3 K4
  have l4 := K4.lb
  have m4 := K4.li.lt
  have o4 := K4.pr.lt
  have q4 := World.block_lt_of_cell? X3 _ a4
  clear K4
  go_wp2
  refine Tail.region_tail_below 24 (by kernel_rfl) (by kernel_rfl) ?_
  simp only [List.take_succ_cons, List.take_zero]
  repeat (go_big_quiet_step (fail))
  refine wpQuiet_nil ?_
  intro Z4 hZ4
  have Y4 := Lib.hid (HQ3.out.later hZ4)
  have U4 := Lib.hid (HG3.out.trans (grown_ofB (row := some gp) hZ4))
  clear cl4 cx4 cp4 a4 b4 v4 l4 m4 o4 q4 hZ4 HG3 HQ3
  go_wp2_with ((with_reducible refine (c4 _ Y4.out).mono ?_); clear c4; rintro e' X4 ⟨rfl, hg4, hq4⟩; have HG4 := Lib.hid (U4.out.trans hg4); have HQ4 := Lib.hid hq4; clear hg4 hq4)
  rw [rounds_succ]
  go_wp2
  go_ret
  exact ⟨rfl, HG4.out, HQ4.out⟩
set_option maxHeartbeats 6400000 in
theorem along_neg (a b c : Int) (n N : Nat) (w : World) (m B gl gx gp kl kx : Nat) (L : List Q) (s : Nat) (d e : Int) (hC : CO a b c n N w m B gl gx gp kl kx L) (hF : Fl a b c L) (hS : ∀ x ∈ L, IsS x) (hn : L.length = n) (hN : (N : Int) = a * b * c) (hs : s < N) (d1 : 1 ≤ d) (d3 : d ≤ 3) (e1 : 1 ≤ e) (e3 : e ≤ 3) :
    Calls Tryz.prog 81 #[.pointer (some ⟨B, 0, none⟩), .int .i64 s, .agg #[.int .i64 d, .int .i64 (-e), .int .i64 (-d), .int .i64 (e)]] w fun e' w' => e' = .returned (.int .i64 (nm (pl4 a b c L s d (-e)))) ∧ w.grownBy w' (some gp) ∧ PR w' gp := by
  have hd : IsStep d := ⟨by omega, by omega, by omega⟩
  have he : IsStep (-e) := ⟨by omega, by omega, by omega⟩
  have hf : IsStep (e) := ⟨by omega, by omega, by omega⟩
  have hl3 := hF.n
  have hn16 : N ≤ 16 := by have := hF.z.p; omega
  obtain ⟨s1, h1⟩ := Int.eq_ofNat_of_zero_le (nx_rng hF.z s d).1
  have hs1 : s1 < N := by have := (nx_rng hF.z s d).2; omega
  obtain ⟨s2, h2⟩ := Int.eq_ofNat_of_zero_le (nx_rng hF.z s1 (-e)).1
  have hs2 : s2 < N := by have := (nx_rng hF.z s1 (-e)).2; omega
  obtain ⟨s3, h3⟩ := Int.eq_ofNat_of_zero_le (nx_rng hF.z s2 (-d)).1
  have hs3 : s3 < N := by have := (nx_rng hF.z s2 (-d)).2; omega
  obtain ⟨s4, h4⟩ := Int.eq_ofNat_of_zero_le (nx_rng hF.z s3 (e)).1
  have hs4 : s4 < N := by have := (nx_rng hF.z s3 (e)).2; omega
  have hal : pl4 a b c L s d (-e) = low (mul (low (mul (low (mul (low (mul one (lk L (3 * s + d - 1)))) (bar (lk L (3 * s2 - (-e) - 1))))) (bar (lk L (3 * s3 - (-d) - 1))))) (lk L (3 * s3 + (e) - 1))) := by
    unfold pl4
    rw [show -(-e) = e by omega]
    rw [al_four hF (by omega) (by omega) hd he (neg_step hd)]
    simp only [up, h1, h2, h3, h4]
    rw [if_pos (by omega), if_neg (by omega), if_neg (by omega), if_pos (by omega)]
  have A1 : ∀ X, CO a b c n N X m B gl gx gp kl kx L → X.cell? ⟨gx, s * 7 + (d + 3).toNat, none⟩ = some (.int .i64 s1) := fun X h => by rw [co_next h (by omega) hd, h1]
  have B1 : ∀ X, CO a b c n N X m B gl gx gp kl kx L → X.cell? ⟨gl, (3 * (s : Int) + d).toNat - 1, none⟩ = some (.int .i64 (nm (lk L (3 * s + d - 1)))) := fun X h => by rw [show (3 * (s : Int) + d).toNat - 1 = (3 * s + d - 1).toNat by omega]; exact co_link h (by omega) (by omega)
  have S1 : IsS (lk L (3 * s + d - 1)) := lk_S hS (by omega) (by omega)
  have A2 : ∀ X, CO a b c n N X m B gl gx gp kl kx L → X.cell? ⟨gx, s1 * 7 + ((-e) + 3).toNat, none⟩ = some (.int .i64 s2) := fun X h => by rw [co_next h (by omega) he, h2]
  have B2 : ∀ X, CO a b c n N X m B gl gx gp kl kx L → X.cell? ⟨gl, (3 * (s2 : Int) + e).toNat - 1, none⟩ = some (.int .i64 (nm (lk L (3 * s2 - (-e) - 1)))) := fun X h => by rw [show (3 * (s2 : Int) + e).toNat - 1 = (3 * s2 - (-e) - 1).toNat by omega]; exact co_link h (by omega) (by omega)
  have S2 : IsS (lk L (3 * s2 - (-e) - 1)) := lk_S hS (by omega) (by omega)
  have A3 : ∀ X, CO a b c n N X m B gl gx gp kl kx L → X.cell? ⟨gx, s2 * 7 + ((-d) + 3).toNat, none⟩ = some (.int .i64 s3) := fun X h => by rw [co_next h (by omega) (neg_step hd), h3]
  have B3 : ∀ X, CO a b c n N X m B gl gx gp kl kx L → X.cell? ⟨gl, (3 * (s3 : Int) + d).toNat - 1, none⟩ = some (.int .i64 (nm (lk L (3 * s3 - (-d) - 1)))) := fun X h => by rw [show (3 * (s3 : Int) + d).toNat - 1 = (3 * s3 - (-d) - 1).toNat by omega]; exact co_link h (by omega) (by omega)
  have S3 : IsS (lk L (3 * s3 - (-d) - 1)) := lk_S hS (by omega) (by omega)
  have A4 : ∀ X, CO a b c n N X m B gl gx gp kl kx L → X.cell? ⟨gx, s3 * 7 + ((e) + 3).toNat, none⟩ = some (.int .i64 s4) := fun X h => by rw [co_next h (by omega) hf, h4]
  have B4 : ∀ X, CO a b c n N X m B gl gx gp kl kx L → X.cell? ⟨gl, (3 * (s3 : Int) + e).toNat - 1, none⟩ = some (.int .i64 (nm (lk L (3 * s3 + (e) - 1)))) := fun X h => by rw [show (3 * (s3 : Int) + e).toNat - 1 = (3 * s3 + (e) - 1).toNat by omega]; exact co_link h (by omega) (by omega)
  have S4 : IsS (lk L (3 * s3 + (e) - 1)) := lk_S hS (by omega) (by omega)
  rw [hal]
  clear hal h1 h2 h3 h4 hF
  generalize lk L (3 * s + d - 1) = y1 at *
  generalize lk L (3 * s2 - (-e) - 1) = y2 at *
  generalize lk L (3 * s3 - (-d) - 1) = y3 at *
  generalize lk L (3 * s3 + (e) - 1) = y4 at *
  have V2 : ∀ X, CO a b c n N X m B gl gx gp kl kx L → X.cell? ⟨gp, 120 + (nm y2).toNat, none⟩ = some (.int .i64 (nm (bar y2))) := fun X h => pr_inv h.pr S2
  have r2 := S2.nm
  have r2a := r2.1
  have r2b := r2.2.1
  clear r2
  have V3 : ∀ X, CO a b c n N X m B gl gx gp kl kx L → X.cell? ⟨gp, 120 + (nm y3).toNat, none⟩ = some (.int .i64 (nm (bar y3))) := fun X h => pr_inv h.pr S3
  have r3 := S3.nm
  have r3a := r3.1
  have r3b := r3.2.1
  clear r3
  have c1 := fun (W : World) (h : PR W gp) => timesN_any gp one y1 W h IsS.one S1
  rw [nm_one] at c1
  have P1 := IsS.mul IsS.one S1
  generalize low (mul one y1) = p1 at *
  have c2 := fun (W : World) (h : PR W gp) => timesN_any gp p1 (bar y2) W h P1 S2.bar
  have P2 := IsS.mul P1 S2.bar
  generalize low (mul p1 (bar y2)) = p2 at *
  have c3 := fun (W : World) (h : PR W gp) => timesN_any gp p2 (bar y3) W h P2 S3.bar
  have P3 := IsS.mul P2 S3.bar
  generalize low (mul p2 (bar y3)) = p3 at *
  have c4 := fun (W : World) (h : PR W gp) => timesN_any gp p3 y4 W h P3 S4
  generalize low (mul p3 y4) = p4 at *
  have HC0 : ∀ X, w.grownBy X (some gp) → PR X gp → CO a b c n N X m B gl gx gp kl kx L := fun X hg hp => hC.touch hg hp
  have HT := Lib.hid HC0
  have HA1 := Lib.hid A1
  have HB1 := Lib.hid B1
  have HA2 := Lib.hid A2
  have HB2 := Lib.hid B2
  have HV2 := Lib.hid V2
  have HA3 := Lib.hid A3
  have HB3 := Lib.hid B3
  have HV3 := Lib.hid V3
  have HA4 := Lib.hid A4
  have HB4 := Lib.hid B4
  have lB := hC.lb
  have lgl := hC.li.lt
  have lgp := hC.pr.lt
  have lgx := hC.nx.lt (by omega)
  have hp0 := hC.pr
  have hln := hn
  have bN : ∀ j : Nat, j < N → 3 * j + 2 < n := fun j hj => by omega
  have t0 := bN s (by omega)
  have t1 := bN s1 (by omega)
  have t2 := bN s2 (by omega)
  have t3 := bN s3 (by omega)
  have t4 := bN s4 (by omega)
  clear bN
  clear hC hS hN hn hln hl3 HC0 hd he hf A1 A2 A3 A4 B1 B2 B3 B4 V2 V3 S1 S2 S3 S4 P1 P2 P3
  have i0 := ixA0 d (-e) (-d) (e)
  have i1 := ixA1 d (-e) (-d) (e)
  have i2 := ixA2 d (-e) (-d) (e)
  have i3 := ixA3 d (-e) (-d) (e)
  have kc := @Tail.cell_re
  have kc1 : ∀ (W : World) (o : Obj) (d : Nat) (os : Array Obj) (a : Addr), a.block ≤ W.heap.size → (Sort.grow (redrawn (W.alloc o) d) os).cell? a = (W.alloc o).cell? a := fun W o d os a h => Tail.cell_re (W.alloc o) d os a (Nat.lt_of_le_of_lt h (by simp))
  go_enter Tryz.func81, Tryz.ntmps81
  go_wp2
  have G0 : w.grownBy (w.alloc (.cells #[.int .i64 d, .int .i64 (-e), .int .i64 (-d), .int .i64 (e)] 127)) (some gp) := grown_ofB (by repeat (first | (with_reducible exact Below.refl _ _) | (with_reducible refine Below.setCell ?_ ?_ _) | (with_reducible refine Below.drew ?_) | (with_reducible refine Below.alloc ?_ ?_ _) | omega | (simp <;> omega)))
  have Q0 : PR (w.alloc (.cells #[.int .i64 d, .int .i64 (-e), .int .i64 (-d), .int .i64 (e)] 127)) gp := hp0.later (by repeat (first | (with_reducible exact Below.refl _ _) | (with_reducible refine Below.setCell ?_ ?_ _) | (with_reducible refine Below.drew ?_) | (with_reducible refine Below.alloc ?_ ?_ _) | omega | (simp <;> omega)))
  have HG0 := Lib.hid G0
  have HQ0 := Lib.hid Q0
  clear G0 Q0 hp0
  generalize w.alloc (.cells #[.int .i64 d, .int .i64 (-e), .int .i64 (-d), .int .i64 (e)] 127) = X0 at *
  refine wp_loop_rounds 5 ?_
  rw [rounds_succ]
  have K1 := HT.out X0 HG0.out HQ0.out
  have cl1 := K1.cl
  have cx1 := K1.cx
  have cp1 := K1.cp
  have a1 := HA1.out X0 K1
  have b1 := HB1.out X0 K1
  have l1 := K1.lb
  have m1 := K1.li.lt
  have o1 := K1.pr.lt
  have q1 := World.block_lt_of_cell? X0 _ a1
  clear K1
  go_wp2
  refine Tail.region_tail_below 16 (by kernel_rfl) (by kernel_rfl) ?_
  simp only [List.take_succ_cons, List.take_zero]
  repeat (go_big_quiet_step (fail))
  refine wpQuiet_nil ?_
  intro Z1 hZ1
  have Y1 := Lib.hid (HQ0.out.later hZ1)
  have U1 := Lib.hid (HG0.out.trans (grown_ofB (row := some gp) hZ1))
  clear cl1 cx1 cp1 a1 b1 l1 m1 o1 q1 hZ1 HG0 HQ0
  go_wp2_with ((with_reducible refine (c1 _ Y1.out).mono ?_); clear c1; rintro e' X1 ⟨rfl, hg1, hq1⟩; have HG1 := Lib.hid (U1.out.trans hg1); have HQ1 := Lib.hid hq1; clear hg1 hq1)
  rw [rounds_succ]
  have K2 := HT.out X1 HG1.out HQ1.out
  have cl2 := K2.cl
  have cx2 := K2.cx
  have cp2 := K2.cp
  have a2 := HA2.out X1 K2
  have b2 := HB2.out X1 K2
  have v2 := HV2.out X1 K2
  have l2 := K2.lb
  have m2 := K2.li.lt
  have o2 := K2.pr.lt
  have q2 := World.block_lt_of_cell? X1 _ a2
  clear K2
  go_wp2
  refine Tail.region_tail_below 24 (by kernel_rfl) (by kernel_rfl) ?_
  simp only [List.take_succ_cons, List.take_zero]
  repeat (go_big_quiet_step (fail))
  refine wpQuiet_nil ?_
  intro Z2 hZ2
  have Y2 := Lib.hid (HQ1.out.later hZ2)
  have U2 := Lib.hid (HG1.out.trans (grown_ofB (row := some gp) hZ2))
  clear cl2 cx2 cp2 a2 b2 v2 l2 m2 o2 q2 hZ2 HG1 HQ1
  go_wp2_with ((with_reducible refine (c2 _ Y2.out).mono ?_); clear c2; rintro e' X2 ⟨rfl, hg2, hq2⟩; have HG2 := Lib.hid (U2.out.trans hg2); have HQ2 := Lib.hid hq2; clear hg2 hq2)
  rw [rounds_succ]
  have K3 := HT.out X2 HG2.out HQ2.out
  have cl3 := K3.cl
  have cx3 := K3.cx
  have cp3 := K3.cp
  have a3 := HA3.out X2 K3
  have b3 := HB3.out X2 K3
  have v3 := HV3.out X2 K3
  have l3 := K3.lb
  have m3 := K3.li.lt
  have o3 := K3.pr.lt
  have q3 := World.block_lt_of_cell? X2 _ a3
  clear K3
  go_wp2
  refine Tail.region_tail_below 24 (by kernel_rfl) (by kernel_rfl) ?_
  simp only [List.take_succ_cons, List.take_zero]
  repeat (go_big_quiet_step (fail))
  refine wpQuiet_nil ?_
  intro Z3 hZ3
  have Y3 := Lib.hid (HQ2.out.later hZ3)
  have U3 := Lib.hid (HG2.out.trans (grown_ofB (row := some gp) hZ3))
  clear cl3 cx3 cp3 a3 b3 v3 l3 m3 o3 q3 hZ3 HG2 HQ2
  go_wp2_with ((with_reducible refine (c3 _ Y3.out).mono ?_); clear c3; rintro e' X3 ⟨rfl, hg3, hq3⟩; have HG3 := Lib.hid (U3.out.trans hg3); have HQ3 := Lib.hid hq3; clear hg3 hq3)
  rw [rounds_succ]
  have K4 := HT.out X3 HG3.out HQ3.out
  have cl4 := K4.cl
  have cx4 := K4.cx
  have cp4 := K4.cp
  have a4 := HA4.out X3 K4
  have b4 := HB4.out X3 K4
  have l4 := K4.lb
  have m4 := K4.li.lt
  have o4 := K4.pr.lt
  have q4 := World.block_lt_of_cell? X3 _ a4
  clear K4
  go_wp2
  refine Tail.region_tail_below 16 (by kernel_rfl) (by kernel_rfl) ?_
  simp only [List.take_succ_cons, List.take_zero]
  repeat (go_big_quiet_step (fail))
  refine wpQuiet_nil ?_
  intro Z4 hZ4
  have Y4 := Lib.hid (HQ3.out.later hZ4)
  have U4 := Lib.hid (HG3.out.trans (grown_ofB (row := some gp) hZ4))
  clear cl4 cx4 cp4 a4 b4 l4 m4 o4 q4 hZ4 HG3 HQ3
  go_wp2_with ((with_reducible refine (c4 _ Y4.out).mono ?_); clear c4; rintro e' X4 ⟨rfl, hg4, hq4⟩; have HG4 := Lib.hid (U4.out.trans hg4); have HQ4 := Lib.hid hq4; clear hg4 hq4)
  rw [rounds_succ]
  go_wp2
  go_ret
  exact ⟨rfl, HG4.out, HQ4.out⟩
end Go.Proofs.YtilbhcjnkmeecaaGreat
