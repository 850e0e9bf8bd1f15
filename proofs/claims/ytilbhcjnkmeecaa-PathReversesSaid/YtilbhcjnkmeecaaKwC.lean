/- A trajectory's beginning without its momenta, as the program makes it.
Conditions: those written at each theorem. -/
import Derived.Test.YtilbhcjnkmeecaaKvC
import Derived.Test.YtilbhcjnkmeecaaCopyC
import Derived.Deep.RegionLaw
namespace Go.Proofs.Ytilbhcjnkmeecaa
set_option linter.unusedVariables false
set_option linter.unusedSimpArgs false
set_option maxRecDepth 1000000
open Go.RowKit
open Um Tm Cm Km

theorem infoNb : (Try.prog.info? 128).map (fun i => (i.zero, i.size, i.bytes)) = some (some (.agg #[.int .i64 0, .int .i64 0, .int .i64 0, .int .i64 0, .int .i64 0, .int .i64 0, .int .i64 0]), 7, 56) := by kernel_rfl
/-- the lists of neighbours of the first sites, one behind another -/
def nbs (a b c : Int) : Nat → List Value
  | 0 => []
  | k + 1 => nbs a b c k ++ nb7 a b c k
theorem nbs_len (a b c : Int) : ∀ k, (nbs a b c k).length = k * 7
  | 0 => rfl
  | k + 1 => by rw [nbs, List.length_append, nbs_len a b c k]; simp [nb7]; omega
theorem nbs_get (a b c : Int) : ∀ (k s t : Nat), s < k → t < 7 → (nbs a b c k)[s * 7 + t]? = (nb7 a b c s)[t]?
  | 0, s, t, hs, _ => by omega
  | k + 1, s, t, hs, ht => by
    by_cases h : s = k
    · subst h
      rw [nbs, List.getElem?_append_right (by rw [nbs_len]; omega), nbs_len]
      congr 1
      omega
    · rw [nbs, List.getElem?_append_left (by rw [nbs_len]; omega)]
      exact nbs_get a b c k s t (by omega) ht
theorem nb7_get (a b c s : Int) (t : Nat) (h : t < 7) (h3 : t ≠ 3) : (nb7 a b c s)[t]? = some (.int .i64 (nx a b c s ((t : Int) - 3))) := by
  match t, h, h3 with
  | 0, _, _ => rfl
  | 1, _, _ => rfl
  | 2, _, _ => rfl
  | 4, _, _ => rfl
  | 5, _, _ => rfl
  | 6, _, _ => rfl
theorem owned_NX {a b c : Int} {w : World} {base : Nat} {T : TypeId} {v : Value} {N : Nat} (h : w.ownsRow base T 7 v N (nbs a b c N)) (hN : 0 < N) : ∃ g cap, v = .slice (some ⟨g, 0, none⟩) N cap ∧ base ≤ g ∧ NX a b c w g N := by
  have hc := h.2
  rcases hc with ⟨_, h0⟩ | ⟨g, cap, cur, rfl, hg, _⟩
  · omega
  · refine ⟨g, cap, rfl, hg, fun s hs t ht h3 => ?_⟩
    rw [h.cellAt (s * 7 + t) (by omega), nbs_get a b c N s t hs ht, nb7_get a b c s t ht h3]
theorem nb7_ones (a b c s : Int) : ∀ u ∈ nb7 a b c s, u.oneCell' = true := fun u hu => by
  simp [nb7] at hu
  rcases hu with rfl | rfl | rfl | rfl | rfl | rfl | rfl <;> rfl
theorem ownB_ne {w : World} {B : Nat} {T : TypeId} {size n : Nat} {v : Value} {xs : List Value} (h : w.ownsRow (B + 1) T size v n xs) : some B ≠ v.ownBlock := fun e => by have := owned_from h B e.symm; omega
/-- a course while its neighbours are found -/
structure CP (a b c : Int) (n : Nat) (w : World) (B gl gp kl : Nat) (L : List Q) (v : Value) : Prop where
  z0 : w.cell? ⟨B, 0, none⟩ = some (.int .i64 a)
  z1 : w.cell? ⟨B, 1, none⟩ = some (.int .i64 b)
  z2 : w.cell? ⟨B, 2, none⟩ = some (.int .i64 c)
  cl : w.cell? ⟨B, 3, none⟩ = some (.slice (some ⟨gl, 0, none⟩) n kl)
  c4 : w.cell? ⟨B, 4, none⟩ = some (.slice none 0 0)
  cx : w.cell? ⟨B, 5, none⟩ = some v
  cp : w.cell? ⟨B, 6, none⟩ = some (.pointer (some ⟨gp, 0, none⟩))
  fb : ∀ j, w.frozen? ⟨B, j, none⟩ = false
  li : IBox w gl (L.map nm)
  pr : PR w gp
  lb : B < w.heap.size
  d1 : gl < gp
  d2 : gp < B
theorem CP.far {a b c : Int} {n : Nat} {w w1 : World} {B gl gp kl : Nat} {L : List Q} {v : Value} {row : Option Nat} (k : CP a b c n w B gl gp kl L v) (hg : w.grownBy w1 row) (h1 : some B ≠ row) (h2 : some gl ≠ row) (h3 : some gp ≠ row) : CP a b c n w1 B gl gp kl L v :=
  ⟨hg.cell k.z0 h1, hg.cell k.z1 h1, hg.cell k.z2 h1, hg.cell k.cl h1, hg.cell k.c4 h1, hg.cell k.cx h1, hg.cell k.cp h1, fun j => (World.frozen?_of_block (a := ⟨B, j, none⟩) (hg.block B k.lb h1)).trans (k.fb j), k.li.grown hg h2, k.pr.grown hg h3, Nat.lt_of_lt_of_le k.lb hg.size, k.d1, k.d2⟩
theorem CP.later {a b c : Int} {n : Nat} {w w1 : World} {B gl gp kl : Nat} {L : List Q} {v : Value} (k : CP a b c n w B gl gp kl L v) (hb : Below w.heap.size w w1) : CP a b c n w1 B gl gp kl L v := k.far (row := none) (grown_ofB hb) (by simp) (by simp) (by simp)
theorem CP.next {a b c : Int} {n : Nat} {w : World} {B gl gp kl : Nat} {L : List Q} {v : Value} (k : CP a b c n w B gl gp kl L v) (u : Value) : CP a b c n (w.setCell ⟨B, 5, none⟩ u) B gl gp kl L u := by
  have hg := grown_setCell w ⟨B, 5, none⟩ u
  have h1 := k.d1
  have h2 := k.d2
  have o : ∀ (j : Nat) (x : Value), j ≠ 5 → w.cell? ⟨B, j, none⟩ = some x → (w.setCell ⟨B, 5, none⟩ u).cell? ⟨B, j, none⟩ = some x := fun j x hj hx => by
    rw [World.cell?_setCell_other _ _ _ _ (by simp <;> omega)]
    exact hx
  exact ⟨o _ _ (by omega) k.z0, o _ _ (by omega) k.z1, o _ _ (by omega) k.z2, o _ _ (by omega) k.cl, o _ _ (by omega) k.c4, World.cell?_setCell_same _ _ _ k.cx, o _ _ (by omega) k.cp, fun j => by rw [World.frozen?_setCell]; exact k.fb j, k.li.grown hg (by simp; omega), k.pr.grown hg (by simp; omega), by simp [World.setCell]; exact k.lb, k.d1, k.d2⟩
/-- a course without momenta, new -/
def RetC (a b c : Int) (n N m : Nat) (L : List Q) (e : Ending) (w' : World) : Prop := ∃ B gl gx gp kl kx : Nat, e = .returned (.tuple #[.pointer (some ⟨B, 0, none⟩), .int .i64 0]) ∧ CO a b c n N w' m B gl gx gp kl kx L ∧ w'.cell? ⟨B, 4, none⟩ = some (.slice none 0 0)
set_option maxHeartbeats 6400000 in
theorem resting_ok (a b c : Int) (bl off cap n N : Nat) (L : List Q) (w : World) (hl : Lies w bl off L) (hr : fldR a b c L 0) (hS : ∀ x ∈ L, IsS x) (hn : L.length = n) (hN : (N : Int) = a * b * c) (hq : smR L (L.map nm) true) : Calls Try.prog 55 #[.agg #[.int .i64 a, .int .i64 b, .int .i64 c, .slice (some ⟨bl, off, none⟩) L.length cap]] w fun e w' => RetC a b c n N w.heap.size L e w' ∧ Below w.heap.size w w' := by
  subst hn
  obtain ⟨hz, hn3, -⟩ := fldR_ok hr
  have hN16 : N ≤ 16 := by have := hz.p; omega
  have hN0 : 0 < N := by obtain ⟨-, -, p3, -⟩ := mul_rng hz.a1 hz.a4 hz.b1 hz.b4 hz.c1 hz.c4; omega
  have hnN : L.length = N * 3 := by omega
  obtain ⟨i0, hi, hz0, hz1, hz2⟩ := info_parts infoNb
  have H := Lib.hid hl
  have c1 : ∀ W : World, Lies W bl off L → Calls Try.prog 62 #[.agg #[.int .i64 a, .int .i64 b, .int .i64 c, .slice (some ⟨bl, off, none⟩) L.length cap]] W fun e w' => RetNB W.heap.size (L.map nm) e w' ∧ Below W.heap.size W w' := fun W h => numbersB_ok a b c _ cap L (L.map nm) W (.inr ⟨bl, off, rfl, h⟩) hr hq
  have c2 := fun W : World => newProducts_any W
  have HC := Lib.hid (fun (k : Nat) (h : k < N) (W : World) => neigh_any a b c k W hz (by omega) (by omega))
  have HL := Lib.hid hnN
  have HK := Lib.hid (fun k : Nat => (show nbs a b c (k + 1) = nbs a b c k ++ nb7 a b c k from rfl))
  have HO := Lib.hid (fun k : Nat => nb7_ones a b c k)
  clear hl hr hS hq hn3
  have hl3 : ((L.length : Nat) : Int) / 3 = (N : Int) := by omega
  clear hnN hN hz
  go_enter Try.func55, Try.ntmps55
  go_wp2_with ((with_reducible refine (c1 _ (H.out.later (by repeat (first | (with_reducible exact Below.refl _ _) | (with_reducible refine Below.setCell ?_ ?_ _) | (with_reducible refine Below.drew ?_) | (with_reducible refine Below.alloc ?_ ?_ _) | omega | (simp <;> omega))))).mono ?_); clear c1; rintro e w1 ⟨⟨g, k, rfl, hbox, hg⟩, hw1⟩; have hc1 := Tail.cells hw1; have s1 := hw1.size; simp at s1; have z1 : w.heap.size < w1.heap.size := (by omega); simp at hg; clear s1)
  have f0 : w1.cell? ⟨w.heap.size, 0, none⟩ = some (.int .i64 a) := by simp [go_sem, hc1, z1]
  have f1 : w1.cell? ⟨w.heap.size, 1, none⟩ = some (.int .i64 b) := by simp [go_sem, hc1, z1]
  have f2 : w1.cell? ⟨w.heap.size, 2, none⟩ = some (.int .i64 c) := by simp [go_sem, hc1, z1]
  have b1 : Below w.heap.size w w1 := by repeat (first | (with_reducible exact Below.refl _ _) | (with_reducible refine Below.setCell ?_ ?_ _) | (with_reducible refine Below.drew ?_) | (with_reducible refine Below.alloc ?_ ?_ _) | (with_reducible refine Below.trans ?_ (Below.mono hw1 ?_)) | (with_reducible exact hw1.size) | omega | (simp <;> omega) | (simp <;> (have s := hw1.size; omega)) | (have s0 := hw1.size; (try simp at s0); (try simp); omega))
  clear hc1
  go_region_held3 (fun w' => w'.cell? ⟨w.heap.size, 0, none⟩ = some (.int .i64 a) ∧ w'.cell? ⟨w.heap.size, 1, none⟩ = some (.int .i64 b) ∧ w'.cell? ⟨w.heap.size, 2, none⟩ = some (.int .i64 c))
    (first
      | go_keep
      | (exact ⟨held_below (W := w1) (by repeat (first | (with_reducible exact Below.refl _ _) | (with_reducible refine Below.setCell ?_ ?_ _) | (with_reducible refine Below.drew ?_) | (with_reducible refine Below.alloc ?_ ?_ _) | (with_reducible refine Below.trans ?_ (Below.mono hw2 ?_)) | (with_reducible exact hw2.size) | omega | (simp <;> omega) | (simp <;> (have s := hw2.size; omega)) | (have s0 := hw2.size; (try simp at s0); (try simp); omega))) f0, held_below (W := w1) (by repeat (first | (with_reducible exact Below.refl _ _) | (with_reducible refine Below.setCell ?_ ?_ _) | (with_reducible refine Below.drew ?_) | (with_reducible refine Below.alloc ?_ ?_ _) | (with_reducible refine Below.trans ?_ (Below.mono hw2 ?_)) | (with_reducible exact hw2.size) | omega | (simp <;> omega) | (simp <;> (have s := hw2.size; omega)) | (have s0 := hw2.size; (try simp at s0); (try simp); omega))) f1, held_below (W := w1) (by repeat (first | (with_reducible exact Below.refl _ _) | (with_reducible refine Below.setCell ?_ ?_ _) | (with_reducible refine Below.drew ?_) | (with_reducible refine Below.alloc ?_ ?_ _) | (with_reducible refine Below.trans ?_ (Below.mono hw2 ?_)) | (with_reducible exact hw2.size) | omega | (simp <;> omega) | (simp <;> (have s := hw2.size; omega)) | (have s0 := hw2.size; (try simp at s0); (try simp); omega))) f2⟩))
    (((with_reducible refine (c2 _).mono ?_); clear c2; rintro e w2 ⟨gp, rfl, hgp, hp, hw2⟩; have hPR := Lib.hid hp; clear hp))
  have bw2 : Below w1.heap.size w1 w2 := ⟨hw2.os, hw2.tape, hw2.output, hw2.size, hw2.block⟩
  have P3 : CP a b c L.length (w2.alloc (.cells #[.int .i64 a, .int .i64 b, .int .i64 c, .slice (some ⟨g, 0, none⟩) L.length k, .slice none 0 0, .slice none 0 0, .pointer (some ⟨gp, 0, none⟩)] 114)) w2.heap.size g gp k L (.slice none 0 0) := by
    have l1 := hbox.lt
    have l2 := hPR.out.lt
    have l3 : w1.heap.size ≤ gp := hgp
    exact ⟨by simp [go_sem], by simp [go_sem], by simp [go_sem], by simp [go_sem], by simp [go_sem], by simp [go_sem], by simp [go_sem], fun j => by simp [go_sem], (hbox.later bw2).later (by repeat (first | (with_reducible exact Below.refl _ _) | (with_reducible refine Below.setCell ?_ ?_ _) | (with_reducible refine Below.drew ?_) | (with_reducible refine Below.alloc ?_ ?_ _) | omega | (simp <;> omega))), hPR.out.later (by repeat (first | (with_reducible exact Below.refl _ _) | (with_reducible refine Below.setCell ?_ ?_ _) | (with_reducible refine Below.drew ?_) | (with_reducible refine Below.alloc ?_ ?_ _) | omega | (simp <;> omega))), by simp, by omega, l2⟩
  have F3 : ∀ (W : World), Below w1.heap.size w1 W → W.cell? ⟨w.heap.size, 0, none⟩ = some (.int .i64 a) ∧ W.cell? ⟨w.heap.size, 1, none⟩ = some (.int .i64 b) ∧ W.cell? ⟨w.heap.size, 2, none⟩ = some (.int .i64 c) := fun W hW => ⟨held_below hW f0, held_below hW f1, held_below hW f2⟩
  have b3 : Below w1.heap.size w1 (w2.alloc (.cells #[.int .i64 a, .int .i64 b, .int .i64 c, .slice (some ⟨g, 0, none⟩) L.length k, .slice none 0 0, .slice none 0 0, .pointer (some ⟨gp, 0, none⟩)] 114)) := by repeat (first | (with_reducible exact Below.refl _ _) | (with_reducible refine Below.setCell ?_ ?_ _) | (with_reducible refine Below.drew ?_) | (with_reducible refine Below.alloc ?_ ?_ _) | (with_reducible refine Below.trans ?_ (Below.mono bw2 ?_)) | (with_reducible exact bw2.size) | omega | (simp <;> omega) | (simp <;> (have s := bw2.size; omega)) | (have s0 := bw2.size; (try simp at s0); (try simp); omega))
  have o3 : (w2.alloc (.cells #[.int .i64 a, .int .i64 b, .int .i64 c, .slice (some ⟨g, 0, none⟩) L.length k, .slice none 0 0, .slice none 0 0, .pointer (some ⟨gp, 0, none⟩)] 114)).ownsRow (w2.heap.size + 1) 128 7 (.slice none 0 0) 0 (nbs a b c 0) := World.ownsRow_nil _ _ _ _
  have s3 : (w2.alloc (.cells #[.int .i64 a, .int .i64 b, .int .i64 c, .slice (some ⟨g, 0, none⟩) L.length k, .slice none 0 0, .slice none 0 0, .pointer (some ⟨gp, 0, none⟩)] 114)).heap.size = w2.heap.size + 1 := by simp
  have lb12 : w1.heap.size ≤ w2.heap.size := hw2.size
  have HF := Lib.hid F3
  have HP3 := Lib.hid P3
  have HO3 := Lib.hid o3
  have HS3 := Lib.hid s3
  have HG := Lib.hid hg
  have HB1 := Lib.hid b1
  clear F3 P3 o3 s3 f0 f1 f2 hw2 bw2 hbox hPR hg hgp b1
  generalize w2.alloc (.cells #[.int .i64 a, .int .i64 b, .int .i64 c, .slice (some ⟨g, 0, none⟩) L.length k, .slice none 0 0, .slice none 0 0, .pointer (some ⟨gp, 0, none⟩)] 114) = W3 at *
  generalize w2.heap.size = B at *
  have hBW : B < W3.heap.size := by have := HS3.out; omega
  go_wp2
  go_loopw [7, 8, 9, 27] (fun _ _ _ q wr => ∃ (j : Nat) (v : Value), j ≤ N ∧ q = .int .i64 j ∧ Hid (CP a b c L.length wr B g gp k L v) ∧ Hid (wr.ownsRow (B + 1) 128 7 v j (nbs a b c j)) ∧ Below w1.heap.size w1 wr ∧ B < wr.heap.size) (fun _ _ _ q _ => N - (intOf q).toNat)
  case atStart => exact ⟨0, _, by omega, rfl, HP3, HO3, b3, hBW⟩
  case round =>
    obtain ⟨j, v, hj, rfl, hP, hO, hb, hB⟩ := hrel
    clear HP3 HO3 HS3 b3 hBW
    by_cases hlt : j < N
    · have i1 : (j : Int) < (N : Int) := by omega
      have c3 := HC.out j hlt
      have o7 := HO.out j
      have hk7 := HK.out j
      unfold nb7 at c3 o7 hk7
      generalize nx a b c j (-3) = n0 at *
      generalize nx a b c j (-2) = n1 at *
      generalize nx a b c j (-1) = n2 at *
      generalize nx a b c j 1 = n4 at *
      generalize nx a b c j 2 = n5 at *
      generalize nx a b c j 3 = n6 at *
      have HK7 := Lib.hid hk7
      have HO7 := Lib.hid o7
      have HBb := Lib.hid hb
      clear hk7 o7
      obtain ⟨f0, f1, f2⟩ := HF.out wr hb
      have lw : w.heap.size < wr.heap.size := World.block_lt_of_cell? wr _ f0
      go_wp2_with ((with_reducible refine (c3 _).mono ?_); clear c3; rintro e w3 ⟨rfl, hw3⟩; have bw3 := Lib.hid hw3; have P4 := (hP.out.later hw3); have O4 := Lib.hid (owned_later hO.out hw3); have x5 := P4.cx; have xf := P4.fb; have l3 := hw3.size; have HP4 := Lib.hid P4; clear P4 hP hO f0 f1 f2 hw3 hb)
      have lB3 : B < w3.heap.size := by omega
      have r0 : (w3.alloc (.cells #[.int .i64 n0, .int .i64 n1, .int .i64 n2, .int .i64 0, .int .i64 n4, .int .i64 n5, .int .i64 n6] 128)).cell? ⟨w3.heap.size, 0, none⟩ = some (.int .i64 n0) := by simp [go_sem]
      have r1 : (w3.alloc (.cells #[.int .i64 n0, .int .i64 n1, .int .i64 n2, .int .i64 0, .int .i64 n4, .int .i64 n5, .int .i64 n6] 128)).cell? ⟨w3.heap.size, 1, none⟩ = some (.int .i64 n1) := by simp [go_sem]
      have r2 : (w3.alloc (.cells #[.int .i64 n0, .int .i64 n1, .int .i64 n2, .int .i64 0, .int .i64 n4, .int .i64 n5, .int .i64 n6] 128)).cell? ⟨w3.heap.size, 2, none⟩ = some (.int .i64 n2) := by simp [go_sem]
      have r3 : (w3.alloc (.cells #[.int .i64 n0, .int .i64 n1, .int .i64 n2, .int .i64 0, .int .i64 n4, .int .i64 n5, .int .i64 n6] 128)).cell? ⟨w3.heap.size, 3, none⟩ = some (.int .i64 0) := by simp [go_sem]
      have r4 : (w3.alloc (.cells #[.int .i64 n0, .int .i64 n1, .int .i64 n2, .int .i64 0, .int .i64 n4, .int .i64 n5, .int .i64 n6] 128)).cell? ⟨w3.heap.size, 4, none⟩ = some (.int .i64 n4) := by simp [go_sem]
      have r5 : (w3.alloc (.cells #[.int .i64 n0, .int .i64 n1, .int .i64 n2, .int .i64 0, .int .i64 n4, .int .i64 n5, .int .i64 n6] 128)).cell? ⟨w3.heap.size, 5, none⟩ = some (.int .i64 n5) := by simp [go_sem]
      have r6 : (w3.alloc (.cells #[.int .i64 n0, .int .i64 n1, .int .i64 n2, .int .i64 0, .int .i64 n4, .int .i64 n5, .int .i64 n6] 128)).cell? ⟨w3.heap.size, 6, none⟩ = some (.int .i64 n6) := by simp [go_sem]
      have y5 : (w3.alloc (.cells #[.int .i64 n0, .int .i64 n1, .int .i64 n2, .int .i64 0, .int .i64 n4, .int .i64 n5, .int .i64 n6] 128)).cell? ⟨B, 5, none⟩ = some v := held_below (W := w3) (by repeat (first | (with_reducible exact Below.refl _ _) | (with_reducible refine Below.setCell ?_ ?_ _) | (with_reducible refine Below.drew ?_) | (with_reducible refine Below.alloc ?_ ?_ _) | omega | (simp <;> omega))) x5
      have b4 : Below w3.heap.size w3 (w3.alloc (.cells #[.int .i64 n0, .int .i64 n1, .int .i64 n2, .int .i64 0, .int .i64 n4, .int .i64 n5, .int .i64 n6] 128)) := by repeat (first | (with_reducible exact Below.refl _ _) | (with_reducible refine Below.setCell ?_ ?_ _) | (with_reducible refine Below.drew ?_) | (with_reducible refine Below.alloc ?_ ?_ _) | omega | (simp <;> omega))
      have s4 : (w3.alloc (.cells #[.int .i64 n0, .int .i64 n1, .int .i64 n2, .int .i64 0, .int .i64 n4, .int .i64 n5, .int .i64 n6] 128)).heap.size = w3.heap.size + 1 := by simp
      have HS4 := Lib.hid s4
      clear x5 s4
      generalize w3.alloc (.cells #[.int .i64 n0, .int .i64 n1, .int .i64 n2, .int .i64 0, .int .i64 n4, .int .i64 n5, .int .i64 n6] 128) = W4 at *
      have fr4 := Lib.hid (fun i => show (W4.drew.alloc (.cells #[.int .i64 n0, .int .i64 n1, .int .i64 n2, .int .i64 0, .int .i64 n4, .int .i64 n5, .int .i64 n6] 128)).frozen? ⟨B, i, none⟩ = false from ((HP4.out.later b4).later (by repeat (first | (with_reducible exact Below.refl _ _) | (with_reducible refine Below.setCell ?_ ?_ _) | (with_reducible refine Below.drew ?_) | (with_reducible refine Below.alloc ?_ ?_ _) | omega | (simp <;> omega)))).fb i)
      have lR : w3.heap.size < W4.heap.size := World.block_lt_of_cell? W4 _ r0
      have lB4 : B < W4.heap.size := by omega
      go_region_law (refine step_append_lies _ rfl (.tmp 44) (.tmp 46) 111 rfl (B + 1) 128 i0 _ 7 56 Try.underlying111 hi hz0 hz1 hz2 rfl (by omega) v j (nbs a b c j) (by rfl) (owned_later O4.out (by repeat (first | (with_reducible exact Below.refl _ _) | (with_reducible refine Below.setCell ?_ ?_ _) | (with_reducible refine Below.drew ?_) | (with_reducible refine Below.alloc ?_ ?_ _) | (with_reducible refine Below.trans ?_ (Below.mono b4 ?_)) | (with_reducible exact b4.size) | omega | (simp <;> omega) | (simp <;> (have s := b4.size; omega)) | (have s0 := b4.size; (try simp at s0); (try simp); omega)))) ⟨W4.heap.size, 0, none⟩ 1 1 [.int .i64 n0, .int .i64 n1, .int .i64 n2, .int .i64 0, .int .i64 n4, .int .i64 n5, .int .i64 n6] (by rfl) (by rfl) (World.news_of_block (heap_alloc_new W4.drew _)) HO7.out (by omega) (by unfold maxLen; omega) (by omega) (by simp; omega) (W4.heap.size + 1) (by simp) ?_; intro gg cap1 w5 hown5 hgrow5 hat5 hlt5; have q5 : w5.cell? ⟨B, 5, none⟩ = some v := hgrow5.cell (held_below (W := W4) (by repeat (first | (with_reducible exact Below.refl _ _) | (with_reducible refine Below.setCell ?_ ?_ _) | (with_reducible refine Below.drew ?_) | (with_reducible refine Below.alloc ?_ ?_ _) | omega | (simp <;> omega))) y5) (ownB_ne O4.out); have qf : ∀ i, w5.frozen? ⟨B, i, none⟩ = false := fun i => (World.frozen?_of_block (a := ⟨B, i, none⟩) (hgrow5.block B (by simp; omega) (ownB_ne O4.out))).trans (fr4.out i); have l5 : B < w5.heap.size := World.block_lt_of_cell? w5 _ q5)
      all_goals
        have PX := ((HP4.out.later b4).later (w1 := W4.drew.alloc (.cells #[.int .i64 n0, .int .i64 n1, .int .i64 n2, .int .i64 0, .int .i64 n4, .int .i64 n5, .int .i64 n6] 128)) (by repeat (first | (with_reducible exact Below.refl _ _) | (with_reducible refine Below.setCell ?_ ?_ _) | (with_reducible refine Below.drew ?_) | (with_reducible refine Below.alloc ?_ ?_ _) | omega | (simp <;> omega))))
        have d1 := PX.d1
        have d2 := PX.d2
        have P5 := PX.far hgrow5 (ownB_ne O4.out) (fun e => by have := owned_from O4.out g e.symm; omega) (fun e => by have := owned_from O4.out gp e.symm; omega)
        have P6 := Lib.hid (P5.next (.slice (some ⟨gg, 0, none⟩) (j + 1) cap1))
        rw [← HK7.out] at hown5
        have O6 := Lib.hid (ownsRow_setCell_below (a := ⟨B, 5, none⟩) hown5 (Nat.lt_succ_self B) (.slice (some ⟨gg, 0, none⟩) (j + 1) cap1))
        have bX : Below w1.heap.size w1 (W4.drew.alloc (.cells #[.int .i64 n0, .int .i64 n1, .int .i64 n2, .int .i64 0, .int .i64 n4, .int .i64 n5, .int .i64 n6] 128)) := by repeat (first | (with_reducible exact Below.refl _ _) | (with_reducible refine Below.setCell ?_ ?_ _) | (with_reducible refine Below.drew ?_) | (with_reducible refine Below.alloc ?_ ?_ _) | (with_reducible refine Below.trans ?_ (Below.mono b4 ?_)) | (with_reducible refine Below.trans ?_ (Below.mono bw3.out ?_)) | (with_reducible refine Below.trans ?_ (Below.mono HBb.out ?_)) | (with_reducible exact b4.size) | (with_reducible exact bw3.out.size) | (with_reducible exact HBb.out.size) | omega | (simp <;> omega) | (simp <;> (have s := b4.size; omega)) | (simp <;> (have s := bw3.out.size; omega)) | (simp <;> (have s := HBb.out.size; omega)) | (have s0 := b4.size; (try simp at s0); have s1 := bw3.out.size; (try simp at s1); have s2 := HBb.out.size; (try simp at s2); (try simp); omega))
        have b5 : Below w1.heap.size w1 w5 := bX.grown hgrow5 (by have := bX.size; simpa using this) (fun i hi => by have := owned_from O4.out i hi; omega)
        have b6 : Below w1.heap.size w1 (w5.setCell ⟨B, 5, none⟩ (.slice (some ⟨gg, 0, none⟩) (j + 1) cap1)) := b5.setCell lb12 _
        clear PX P5 hown5 hgrow5
        go_wp2
        exact ⟨⟨j + 1, _, by omega, by go_num, P6, O6, b6, by simpa [World.setCell] using l5⟩, by simp [intOf]; omega⟩
    · obtain rfl : j = N := by omega
      obtain ⟨gx, kx, rfl, hgx, hNX⟩ := owned_NX hO.out hN0
      have P := hP.out
      have h1 := P.d1
      have h2 := P.d2
      have hg2 := HG.out
      have hfin : CO a b c L.length j wr w.heap.size B g gx gp k kx L := ⟨P.z0, P.z1, P.z2, P.cl, P.cx, P.cp, P.fb, P.li, hNX, P.pr, by omega, by omega, by omega, by omega, by omega, by omega, by omega, by omega, by omega, P.lb⟩
      have hc4 := P.c4
      have HFIN := Lib.hid (show RetC a b c L.length j w.heap.size L (.returned (.tuple #[.pointer (some ⟨B, 0, none⟩), .int .i64 0])) wr from ⟨B, g, gx, gp, k, kx, rfl, hfin, hc4⟩)
      clear P hc4 hfin hNX hP hO h1 h2 hg2
      go_wp2
      go_ret2
      exact ⟨HFIN.out, by repeat (first | (with_reducible exact Below.refl _ _) | (with_reducible refine Below.setCell ?_ ?_ _) | (with_reducible refine Below.drew ?_) | (with_reducible refine Below.alloc ?_ ?_ _) | (with_reducible refine Below.trans ?_ (Below.mono hb ?_)) | (with_reducible refine Below.trans ?_ (Below.mono HB1.out ?_)) | (with_reducible exact hb.size) | (with_reducible exact HB1.out.size) | omega | (simp <;> omega) | (simp <;> (have s := hb.size; omega)) | (simp <;> (have s := HB1.out.size; omega)) | (have s0 := hb.size; (try simp at s0); have s1 := HB1.out.size; (try simp at s1); (try simp); omega))⟩
end Go.Proofs.Ytilbhcjnkmeecaa
