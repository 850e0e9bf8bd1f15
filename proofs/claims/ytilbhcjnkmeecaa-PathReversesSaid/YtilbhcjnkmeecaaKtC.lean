/- Numbers of small units, and the table of their products, as the program makes and asks them.
Conditions: those written at each theorem. -/
import Derived.Test.YtilbhcjnkmeecaaCorC
import Derived.Test.YtilbhcjnkmeecaaNumber
import Derived.Test.YtilbhcjnkmeecaaSmall
import Derived.Test.YtilbhcjnkmeecaaQuatB
namespace Go.Proofs.Ytilbhcjnkmeecaa
set_option linter.unusedVariables false
set_option linter.unusedSimpArgs false
set_option maxRecDepth 1000000
open Go.RowKit
open Um Tm Cm Km

set_option maxHeartbeats 800000 in
theorem numberOf_any (x : Q) (w : World) (hx : IsS x) : Calls Try.prog 115 #[.agg #[.int .i64 x.a, .int .i64 x.b, .int .i64 x.c, .int .i64 x.d, .int .i64 x.n]] w fun e w' => e = .returned (.int .i64 (nm x)) ∧ Below w.heap.size w w' := by
  have c1 := fun W : World => number_ok x (nm x) true W hx.V (numR_nm hx)
  clear hx
  generalize nm x = n at *
  go_enter Try.func115, Try.ntmps115
  go_wp2_with (first | ((with_reducible refine (c1 _).mono ?_); clear c1; rintro e w1 ⟨rfl, hw1⟩; have hc1 := Tail.cells hw1; have s1 := hw1.size; (try simp at s1); (try have z1_0 : w.heap.size < w1.heap.size := (by omega)); clear s1))
  go_ret
  exact ⟨rfl, by repeat (first | (with_reducible exact Below.refl _ _) | (with_reducible refine Below.setCell ?_ ?_ _) | (with_reducible refine Below.drew ?_) | (with_reducible refine Below.alloc ?_ ?_ _) | (with_reducible refine Below.trans ?_ (Below.mono hw1 ?_)) | (with_reducible exact hw1.size) | omega | (simp <;> omega) | (simp <;> (have s := hw1.size; omega)) | (have s0 := hw1.size; (try simp at s0); (try simp); omega))⟩
set_option maxHeartbeats 3200000 in
theorem times_known (b i j : Nat) (v : Int) (w : World) (k : w.cell? ⟨b, 144 + (i * 24 + j), none⟩ = some (.bool true)) (k2 : w.cell? ⟨b, 720 + (i * 24 + j), none⟩ = some (.int .i64 v)) (hi : i < 24) (hj : j < 24) :
    Calls Try.prog 117 #[.pointer (some ⟨b, 0, none⟩), .int .i64 i, .int .i64 j] w fun e w' => e = .returned (.int .i64 v) ∧ w = w' := by
  have i1 : (i : Int) < 24 := by omega
  have j1 : (j : Int) < 24 := by omega
  rw [← Nat.add_assoc] at k k2
  go_enter Try.func117, Try.ntmps117
  go_wp2
  go_ret
  exact ⟨rfl, rfl⟩
theorem held_below {W W1 : World} {b i : Nat} {v : Value} (h : Below W.heap.size W W1) (hc : W.cell? ⟨b, i, none⟩ = some v)   : W1.cell? ⟨b, i, none⟩ = some v := (h.cell (World.block_lt_of_cell? W _ hc)).trans hc
theorem small_one (i : Nat) (hi : i < 24) : IsS (small i) := ⟨i, hi, rfl⟩
theorem mul_small (i j : Nat) (hi : i < 24) (hj : j < 24) (w : World) : Calls Try.prog 136 #[.agg #[.int .i64 (small i).a, .int .i64 (small i).b, .int .i64 (small i).c, .int .i64 (small i).d, .int .i64 (small i).n], .agg #[.int .i64 (small j).a, .int .i64 (small j).b, .int .i64 (small j).c, .int .i64 (small j).d, .int .i64 (small j).n]] w fun e w' => e = .returned (.tuple #[.agg #[.int .i64 (low (mul (small i) (small j))).a, .int .i64 (low (mul (small i) (small j))).b, .int .i64 (low (mul (small i) (small j))).c, .int .i64 (low (mul (small i) (small j))).d, .int .i64 (low (mul (small i) (small j))).n], .int .i64 0]) ∧ Below w.heap.size w w' := by
  have h := (small_one i hi).mul (small_one j hj)
  have := h.tw.2.2.2.1
  exact mul_good _ _ _ 0 w (small_one i hi).V (small_one j hj).V (.inl ⟨by omega, rfl, rfl⟩)
set_option maxHeartbeats 6400000 in
theorem times_new (b i j : Nat) (w : World) (hp : PR w b) (hi : i < 24) (hj : j < 24) (k : w.cell? ⟨b, 144 + (i * 24 + j), none⟩ = some (.bool false)) :
    Calls Try.prog 117 #[.pointer (some ⟨b, 0, none⟩), .int .i64 i, .int .i64 j] w fun e w' => e = .returned (.int .i64 (nm (low (mul (small i) (small j))))) ∧ w.grownBy w' (some b) ∧ PR w' b := by
  have HP := Lib.hid hp
  have i1 : (i : Int) < 24 := by omega
  have j1 : (j : Int) < 24 := by omega
  have c1 := mul_small i j hi hj
  have c2 := fun W : World => numberOf_any _ W ((small_one i hi).mul (small_one j hj))
  obtain ⟨a0, a1, a2, a3, a4⟩ := hp.un i hi
  obtain ⟨b0, b1, b2, b3, b4⟩ := hp.un j hj
  have lb := hp.lt
  clear hp
  obtain ⟨p, hp'⟩ : ∃ p, low (mul (small i) (small j)) = p := ⟨_, rfl⟩
  rw [hp'] at c1 c2 ⊢
  have hP := Lib.hid hp'
  clear hp'
  generalize hx : small (i : Int) = x at *
  generalize hy : small (j : Int) = y at *
  rw [← Nat.add_assoc] at k
  go_enter Try.func117, Try.ntmps117
  go_wp2
  go_region_held3 (fun w' => w'.cell? ⟨b, i * 5, none⟩ = some (.int .i64 x.a) ∧ w'.cell? ⟨b, i * 5 + 1, none⟩ = some (.int .i64 x.b) ∧ w'.cell? ⟨b, i * 5 + 2, none⟩ = some (.int .i64 x.c) ∧ w'.cell? ⟨b, i * 5 + 3, none⟩ = some (.int .i64 x.d) ∧ w'.cell? ⟨b, i * 5 + 4, none⟩ = some (.int .i64 x.n) ∧ w'.cell? ⟨b, j * 5, none⟩ = some (.int .i64 y.a) ∧ w'.cell? ⟨b, j * 5 + 1, none⟩ = some (.int .i64 y.b) ∧ w'.cell? ⟨b, j * 5 + 2, none⟩ = some (.int .i64 y.c) ∧ w'.cell? ⟨b, j * 5 + 3, none⟩ = some (.int .i64 y.d) ∧ w'.cell? ⟨b, j * 5 + 4, none⟩ = some (.int .i64 y.n))
    (first
      | go_keep
      | (exact ⟨held_below (W := w) (by repeat (first | (with_reducible exact Below.refl _ _) | (with_reducible refine Below.setCell ?_ ?_ _) | (with_reducible refine Below.drew ?_) | (with_reducible refine Below.alloc ?_ ?_ _) | (with_reducible refine Below.trans ?_ (Below.mono hw1 ?_)) | (with_reducible exact hw1.size) | omega | (simp <;> omega) | (simp <;> (have s := hw1.size; omega)) | (have s0 := hw1.size; (try simp at s0); (try simp); omega))) a0, held_below (W := w) (by repeat (first | (with_reducible exact Below.refl _ _) | (with_reducible refine Below.setCell ?_ ?_ _) | (with_reducible refine Below.drew ?_) | (with_reducible refine Below.alloc ?_ ?_ _) | (with_reducible refine Below.trans ?_ (Below.mono hw1 ?_)) | (with_reducible exact hw1.size) | omega | (simp <;> omega) | (simp <;> (have s := hw1.size; omega)) | (have s0 := hw1.size; (try simp at s0); (try simp); omega))) a1, held_below (W := w) (by repeat (first | (with_reducible exact Below.refl _ _) | (with_reducible refine Below.setCell ?_ ?_ _) | (with_reducible refine Below.drew ?_) | (with_reducible refine Below.alloc ?_ ?_ _) | (with_reducible refine Below.trans ?_ (Below.mono hw1 ?_)) | (with_reducible exact hw1.size) | omega | (simp <;> omega) | (simp <;> (have s := hw1.size; omega)) | (have s0 := hw1.size; (try simp at s0); (try simp); omega))) a2, held_below (W := w) (by repeat (first | (with_reducible exact Below.refl _ _) | (with_reducible refine Below.setCell ?_ ?_ _) | (with_reducible refine Below.drew ?_) | (with_reducible refine Below.alloc ?_ ?_ _) | (with_reducible refine Below.trans ?_ (Below.mono hw1 ?_)) | (with_reducible exact hw1.size) | omega | (simp <;> omega) | (simp <;> (have s := hw1.size; omega)) | (have s0 := hw1.size; (try simp at s0); (try simp); omega))) a3, held_below (W := w) (by repeat (first | (with_reducible exact Below.refl _ _) | (with_reducible refine Below.setCell ?_ ?_ _) | (with_reducible refine Below.drew ?_) | (with_reducible refine Below.alloc ?_ ?_ _) | (with_reducible refine Below.trans ?_ (Below.mono hw1 ?_)) | (with_reducible exact hw1.size) | omega | (simp <;> omega) | (simp <;> (have s := hw1.size; omega)) | (have s0 := hw1.size; (try simp at s0); (try simp); omega))) a4, held_below (W := w) (by repeat (first | (with_reducible exact Below.refl _ _) | (with_reducible refine Below.setCell ?_ ?_ _) | (with_reducible refine Below.drew ?_) | (with_reducible refine Below.alloc ?_ ?_ _) | (with_reducible refine Below.trans ?_ (Below.mono hw1 ?_)) | (with_reducible exact hw1.size) | omega | (simp <;> omega) | (simp <;> (have s := hw1.size; omega)) | (have s0 := hw1.size; (try simp at s0); (try simp); omega))) b0, held_below (W := w) (by repeat (first | (with_reducible exact Below.refl _ _) | (with_reducible refine Below.setCell ?_ ?_ _) | (with_reducible refine Below.drew ?_) | (with_reducible refine Below.alloc ?_ ?_ _) | (with_reducible refine Below.trans ?_ (Below.mono hw1 ?_)) | (with_reducible exact hw1.size) | omega | (simp <;> omega) | (simp <;> (have s := hw1.size; omega)) | (have s0 := hw1.size; (try simp at s0); (try simp); omega))) b1, held_below (W := w) (by repeat (first | (with_reducible exact Below.refl _ _) | (with_reducible refine Below.setCell ?_ ?_ _) | (with_reducible refine Below.drew ?_) | (with_reducible refine Below.alloc ?_ ?_ _) | (with_reducible refine Below.trans ?_ (Below.mono hw1 ?_)) | (with_reducible exact hw1.size) | omega | (simp <;> omega) | (simp <;> (have s := hw1.size; omega)) | (have s0 := hw1.size; (try simp at s0); (try simp); omega))) b2, held_below (W := w) (by repeat (first | (with_reducible exact Below.refl _ _) | (with_reducible refine Below.setCell ?_ ?_ _) | (with_reducible refine Below.drew ?_) | (with_reducible refine Below.alloc ?_ ?_ _) | (with_reducible refine Below.trans ?_ (Below.mono hw1 ?_)) | (with_reducible exact hw1.size) | omega | (simp <;> omega) | (simp <;> (have s := hw1.size; omega)) | (have s0 := hw1.size; (try simp at s0); (try simp); omega))) b3, held_below (W := w) (by repeat (first | (with_reducible exact Below.refl _ _) | (with_reducible refine Below.setCell ?_ ?_ _) | (with_reducible refine Below.drew ?_) | (with_reducible refine Below.alloc ?_ ?_ _) | (with_reducible refine Below.trans ?_ (Below.mono hw1 ?_)) | (with_reducible exact hw1.size) | omega | (simp <;> omega) | (simp <;> (have s := hw1.size; omega)) | (have s0 := hw1.size; (try simp at s0); (try simp); omega))) b4⟩)
      | (exact ⟨held_below (W := w) (by repeat (first | (with_reducible exact Below.refl _ _) | (with_reducible refine Below.setCell ?_ ?_ _) | (with_reducible refine Below.drew ?_) | (with_reducible refine Below.alloc ?_ ?_ _) | omega | (simp <;> omega))) a0, held_below (W := w) (by repeat (first | (with_reducible exact Below.refl _ _) | (with_reducible refine Below.setCell ?_ ?_ _) | (with_reducible refine Below.drew ?_) | (with_reducible refine Below.alloc ?_ ?_ _) | omega | (simp <;> omega))) a1, held_below (W := w) (by repeat (first | (with_reducible exact Below.refl _ _) | (with_reducible refine Below.setCell ?_ ?_ _) | (with_reducible refine Below.drew ?_) | (with_reducible refine Below.alloc ?_ ?_ _) | omega | (simp <;> omega))) a2, held_below (W := w) (by repeat (first | (with_reducible exact Below.refl _ _) | (with_reducible refine Below.setCell ?_ ?_ _) | (with_reducible refine Below.drew ?_) | (with_reducible refine Below.alloc ?_ ?_ _) | omega | (simp <;> omega))) a3, held_below (W := w) (by repeat (first | (with_reducible exact Below.refl _ _) | (with_reducible refine Below.setCell ?_ ?_ _) | (with_reducible refine Below.drew ?_) | (with_reducible refine Below.alloc ?_ ?_ _) | omega | (simp <;> omega))) a4, held_below (W := w) (by repeat (first | (with_reducible exact Below.refl _ _) | (with_reducible refine Below.setCell ?_ ?_ _) | (with_reducible refine Below.drew ?_) | (with_reducible refine Below.alloc ?_ ?_ _) | omega | (simp <;> omega))) b0, held_below (W := w) (by repeat (first | (with_reducible exact Below.refl _ _) | (with_reducible refine Below.setCell ?_ ?_ _) | (with_reducible refine Below.drew ?_) | (with_reducible refine Below.alloc ?_ ?_ _) | omega | (simp <;> omega))) b1, held_below (W := w) (by repeat (first | (with_reducible exact Below.refl _ _) | (with_reducible refine Below.setCell ?_ ?_ _) | (with_reducible refine Below.drew ?_) | (with_reducible refine Below.alloc ?_ ?_ _) | omega | (simp <;> omega))) b2, held_below (W := w) (by repeat (first | (with_reducible exact Below.refl _ _) | (with_reducible refine Below.setCell ?_ ?_ _) | (with_reducible refine Below.drew ?_) | (with_reducible refine Below.alloc ?_ ?_ _) | omega | (simp <;> omega))) b3, held_below (W := w) (by repeat (first | (with_reducible exact Below.refl _ _) | (with_reducible refine Below.setCell ?_ ?_ _) | (with_reducible refine Below.drew ?_) | (with_reducible refine Below.alloc ?_ ?_ _) | omega | (simp <;> omega))) b4⟩))
    (((with_reducible refine (c1 _).mono ?_); rintro e w1 ⟨rfl, hw1⟩; have hc1 := Tail.cells hw1))
  · have y0 : (w1.alloc (.cells #[.int .i64 p.a, .int .i64 p.b, .int .i64 p.c, .int .i64 p.d, .int .i64 p.n] 36)).cell? ⟨w1.heap.size, 0, none⟩ = some (.int .i64 p.a) := by simp [go_sem]
    have y1 : (w1.alloc (.cells #[.int .i64 p.a, .int .i64 p.b, .int .i64 p.c, .int .i64 p.d, .int .i64 p.n] 36)).cell? ⟨w1.heap.size, 1, none⟩ = some (.int .i64 p.b) := by simp [go_sem]
    have y2 : (w1.alloc (.cells #[.int .i64 p.a, .int .i64 p.b, .int .i64 p.c, .int .i64 p.d, .int .i64 p.n] 36)).cell? ⟨w1.heap.size, 2, none⟩ = some (.int .i64 p.c) := by simp [go_sem]
    have y3 : (w1.alloc (.cells #[.int .i64 p.a, .int .i64 p.b, .int .i64 p.c, .int .i64 p.d, .int .i64 p.n] 36)).cell? ⟨w1.heap.size, 3, none⟩ = some (.int .i64 p.d) := by simp [go_sem]
    have y4 : (w1.alloc (.cells #[.int .i64 p.a, .int .i64 p.b, .int .i64 p.c, .int .i64 p.d, .int .i64 p.n] 36)).cell? ⟨w1.heap.size, 4, none⟩ = some (.int .i64 p.n) := by simp [go_sem]
    have bW : Below w.heap.size w (w1.alloc (.cells #[.int .i64 p.a, .int .i64 p.b, .int .i64 p.c, .int .i64 p.d, .int .i64 p.n] 36)) := by repeat (first | (with_reducible exact Below.refl _ _) | (with_reducible refine Below.setCell ?_ ?_ _) | (with_reducible refine Below.drew ?_) | (with_reducible refine Below.alloc ?_ ?_ _) | (with_reducible refine Below.trans ?_ (Below.mono hw1 ?_)) | (with_reducible exact hw1.size) | omega | (simp <;> omega) | (simp <;> (have s := hw1.size; omega)) | (have s0 := hw1.size; (try simp at s0); (try simp); omega))
    have zg : w.heap.size ≤ w1.heap.size := hw1.size
    have zl : w1.heap.size < (w1.alloc (.cells #[.int .i64 p.a, .int .i64 p.b, .int .i64 p.c, .int .i64 p.d, .int .i64 p.n] 36)).heap.size := by simp
    generalize w1.alloc (.cells #[.int .i64 p.a, .int .i64 p.b, .int .i64 p.c, .int .i64 p.d, .int .i64 p.n] 36) = W at *
    generalize w1.heap.size = g at *
    have PW := Lib.hid (HP.out.later bW)
    have kW := held_below bW k
    obtain ⟨q0, v0, -, kv, -⟩ := PW.out.kn i j hi hj
    rw [← Nat.add_assoc] at kv
    have lbW := PW.out.lt
    have fW := PW.out.free
    have hgb : g ≠ b := by omega
    have hbg : b ≠ g := by omega
    clear k hw1 hc1 c1 HP a0 a1 a2 a3 a4 b0 b1 b2 b3 b4
    go_wp2
    go_region_held3 (fun w' => w'.cell? ⟨g, 0, none⟩ = some (.int .i64 p.a) ∧ w'.cell? ⟨g, 1, none⟩ = some (.int .i64 p.b) ∧ w'.cell? ⟨g, 2, none⟩ = some (.int .i64 p.c) ∧ w'.cell? ⟨g, 3, none⟩ = some (.int .i64 p.d) ∧ w'.cell? ⟨g, 4, none⟩ = some (.int .i64 p.n))
      (first
        | go_keep
        | (exact ⟨held_below (W := W) (by repeat (first | (with_reducible exact Below.refl _ _) | (with_reducible refine Below.setCell ?_ ?_ _) | (with_reducible refine Below.drew ?_) | (with_reducible refine Below.alloc ?_ ?_ _) | (with_reducible refine Below.trans ?_ (Below.mono hw2 ?_)) | (with_reducible exact hw2.size) | omega | (simp <;> omega) | (simp <;> (have s := hw2.size; omega)) | (have s0 := hw2.size; (try simp at s0); (try simp); omega))) y0, held_below (W := W) (by repeat (first | (with_reducible exact Below.refl _ _) | (with_reducible refine Below.setCell ?_ ?_ _) | (with_reducible refine Below.drew ?_) | (with_reducible refine Below.alloc ?_ ?_ _) | (with_reducible refine Below.trans ?_ (Below.mono hw2 ?_)) | (with_reducible exact hw2.size) | omega | (simp <;> omega) | (simp <;> (have s := hw2.size; omega)) | (have s0 := hw2.size; (try simp at s0); (try simp); omega))) y1, held_below (W := W) (by repeat (first | (with_reducible exact Below.refl _ _) | (with_reducible refine Below.setCell ?_ ?_ _) | (with_reducible refine Below.drew ?_) | (with_reducible refine Below.alloc ?_ ?_ _) | (with_reducible refine Below.trans ?_ (Below.mono hw2 ?_)) | (with_reducible exact hw2.size) | omega | (simp <;> omega) | (simp <;> (have s := hw2.size; omega)) | (have s0 := hw2.size; (try simp at s0); (try simp); omega))) y2, held_below (W := W) (by repeat (first | (with_reducible exact Below.refl _ _) | (with_reducible refine Below.setCell ?_ ?_ _) | (with_reducible refine Below.drew ?_) | (with_reducible refine Below.alloc ?_ ?_ _) | (with_reducible refine Below.trans ?_ (Below.mono hw2 ?_)) | (with_reducible exact hw2.size) | omega | (simp <;> omega) | (simp <;> (have s := hw2.size; omega)) | (have s0 := hw2.size; (try simp at s0); (try simp); omega))) y3, held_below (W := W) (by repeat (first | (with_reducible exact Below.refl _ _) | (with_reducible refine Below.setCell ?_ ?_ _) | (with_reducible refine Below.drew ?_) | (with_reducible refine Below.alloc ?_ ?_ _) | (with_reducible refine Below.trans ?_ (Below.mono hw2 ?_)) | (with_reducible exact hw2.size) | omega | (simp <;> omega) | (simp <;> (have s := hw2.size; omega)) | (have s0 := hw2.size; (try simp at s0); (try simp); omega))) y4⟩)
        | (refine ⟨?_, ?_, ?_, ?_, ?_⟩ <;> ((repeat rw [World.cell?_setCell_other _ _ _ _ (by simp; exact fun h => absurd h hbg)]); first | exact held_below bw2 y0 | exact held_below bw2 y1 | exact held_below bw2 y2 | exact held_below bw2 y3 | exact held_below bw2 y4)))
      (((with_reducible refine (c2 _).mono ?_); rintro e w2 ⟨rfl, hw2⟩; have bw2 : Below W.heap.size W w2 := ⟨hw2.os, hw2.tape, hw2.output, hw2.size, hw2.block⟩; have xk := held_below (W := W) bw2 kv; have xi := held_below (W := W) bw2 kW; have xf : ∀ j, w2.frozen? ⟨b, j, none⟩ = false := fun j => (bw2.frozen (p := ⟨b, j, none⟩) lbW).trans (fW j)))
    have G1 : w.grownBy w2 (some b) := grown_ofB (by repeat (first | (with_reducible exact Below.refl _ _) | (with_reducible refine Below.setCell ?_ ?_ _) | (with_reducible refine Below.drew ?_) | (with_reducible refine Below.alloc ?_ ?_ _) | (with_reducible refine Below.trans ?_ (Below.mono bw2 ?_)) | (with_reducible refine Below.trans ?_ (Below.mono bW ?_)) | (with_reducible exact bw2.size) | (with_reducible exact bW.size) | omega | (simp <;> omega) | (simp <;> (have s := bw2.size; omega)) | (simp <;> (have s := bW.size; omega)) | (have s0 := bw2.size; (try simp at s0); have s1 := bW.size; (try simp at s1); (try simp); omega)))
    have P2 := Lib.hid (PW.out.later bw2)
    have lb2 := P2.out.lt
    clear hw2 y0 y1 y2 y3 y4
    go_wp2
    go_ret
    refine ⟨rfl, (G1.trans (grown_setCell _ ⟨b, _, none⟩ _)).trans (grown_setCell _ ⟨b, _, none⟩ _), ?_⟩
    have := P2.out.put hi hj (v := nm p) (by rw [hx, hy, hP.out])
    simpa only [← Nat.add_assoc] using this
  · have u0 : w1.cell? ⟨w.heap.size, 0, none⟩ = some (.int .i64 0) := (hw1.cell (p := ⟨w.heap.size, 0, none⟩) (by simp)).trans (by simp [go_sem])
    have u1 : w1.cell? ⟨w.heap.size, 1, none⟩ = some (.int .i64 0) := (hw1.cell (p := ⟨w.heap.size, 1, none⟩) (by simp)).trans (by simp [go_sem])
    have u2 : w1.cell? ⟨w.heap.size, 2, none⟩ = some (.int .i64 0) := (hw1.cell (p := ⟨w.heap.size, 2, none⟩) (by simp)).trans (by simp [go_sem])
    have u3 : w1.cell? ⟨w.heap.size, 3, none⟩ = some (.int .i64 0) := (hw1.cell (p := ⟨w.heap.size, 3, none⟩) (by simp)).trans (by simp [go_sem])
    have u4 : w1.cell? ⟨w.heap.size, 4, none⟩ = some (.int .i64 0) := (hw1.cell (p := ⟨w.heap.size, 4, none⟩) (by simp)).trans (by simp [go_sem])
    have zl1 : w.heap.size < w1.heap.size := World.block_lt_of_cell? w1 _ u0
    have y0 : (((((w1.setCell ⟨w.heap.size, 0, none⟩ (.int .i64 p.a)).setCell ⟨w.heap.size, 1, none⟩ (.int .i64 p.b)).setCell ⟨w.heap.size, 2, none⟩ (.int .i64 p.c)).setCell ⟨w.heap.size, 3, none⟩ (.int .i64 p.d)).setCell ⟨w.heap.size, 4, none⟩ (.int .i64 p.n)).cell? ⟨w.heap.size, 0, none⟩ = some (.int .i64 p.a) := by simp [go_sem, u0, u1, u2, u3, u4]
    have y1 : (((((w1.setCell ⟨w.heap.size, 0, none⟩ (.int .i64 p.a)).setCell ⟨w.heap.size, 1, none⟩ (.int .i64 p.b)).setCell ⟨w.heap.size, 2, none⟩ (.int .i64 p.c)).setCell ⟨w.heap.size, 3, none⟩ (.int .i64 p.d)).setCell ⟨w.heap.size, 4, none⟩ (.int .i64 p.n)).cell? ⟨w.heap.size, 1, none⟩ = some (.int .i64 p.b) := by simp [go_sem, u0, u1, u2, u3, u4]
    have y2 : (((((w1.setCell ⟨w.heap.size, 0, none⟩ (.int .i64 p.a)).setCell ⟨w.heap.size, 1, none⟩ (.int .i64 p.b)).setCell ⟨w.heap.size, 2, none⟩ (.int .i64 p.c)).setCell ⟨w.heap.size, 3, none⟩ (.int .i64 p.d)).setCell ⟨w.heap.size, 4, none⟩ (.int .i64 p.n)).cell? ⟨w.heap.size, 2, none⟩ = some (.int .i64 p.c) := by simp [go_sem, u0, u1, u2, u3, u4]
    have y3 : (((((w1.setCell ⟨w.heap.size, 0, none⟩ (.int .i64 p.a)).setCell ⟨w.heap.size, 1, none⟩ (.int .i64 p.b)).setCell ⟨w.heap.size, 2, none⟩ (.int .i64 p.c)).setCell ⟨w.heap.size, 3, none⟩ (.int .i64 p.d)).setCell ⟨w.heap.size, 4, none⟩ (.int .i64 p.n)).cell? ⟨w.heap.size, 3, none⟩ = some (.int .i64 p.d) := by simp [go_sem, u0, u1, u2, u3, u4]
    have y4 : (((((w1.setCell ⟨w.heap.size, 0, none⟩ (.int .i64 p.a)).setCell ⟨w.heap.size, 1, none⟩ (.int .i64 p.b)).setCell ⟨w.heap.size, 2, none⟩ (.int .i64 p.c)).setCell ⟨w.heap.size, 3, none⟩ (.int .i64 p.d)).setCell ⟨w.heap.size, 4, none⟩ (.int .i64 p.n)).cell? ⟨w.heap.size, 4, none⟩ = some (.int .i64 p.n) := by simp [go_sem, u0, u1, u2, u3, u4]
    have bW : Below w.heap.size w (((((w1.setCell ⟨w.heap.size, 0, none⟩ (.int .i64 p.a)).setCell ⟨w.heap.size, 1, none⟩ (.int .i64 p.b)).setCell ⟨w.heap.size, 2, none⟩ (.int .i64 p.c)).setCell ⟨w.heap.size, 3, none⟩ (.int .i64 p.d)).setCell ⟨w.heap.size, 4, none⟩ (.int .i64 p.n)) := by repeat (first | (with_reducible exact Below.refl _ _) | (with_reducible refine Below.setCell ?_ ?_ _) | (with_reducible refine Below.drew ?_) | (with_reducible refine Below.alloc ?_ ?_ _) | (with_reducible refine Below.trans ?_ (Below.mono hw1 ?_)) | (with_reducible exact hw1.size) | omega | (simp <;> omega) | (simp <;> (have s := hw1.size; omega)) | (have s0 := hw1.size; (try simp at s0); (try simp); omega))
    have zg : w.heap.size ≤ w.heap.size := Nat.le_refl _
    have zl : w.heap.size < (((((w1.setCell ⟨w.heap.size, 0, none⟩ (.int .i64 p.a)).setCell ⟨w.heap.size, 1, none⟩ (.int .i64 p.b)).setCell ⟨w.heap.size, 2, none⟩ (.int .i64 p.c)).setCell ⟨w.heap.size, 3, none⟩ (.int .i64 p.d)).setCell ⟨w.heap.size, 4, none⟩ (.int .i64 p.n)).heap.size := by simpa using zl1
    clear u0 u1 u2 u3 u4 zl1
    generalize ((((w1.setCell ⟨w.heap.size, 0, none⟩ (.int .i64 p.a)).setCell ⟨w.heap.size, 1, none⟩ (.int .i64 p.b)).setCell ⟨w.heap.size, 2, none⟩ (.int .i64 p.c)).setCell ⟨w.heap.size, 3, none⟩ (.int .i64 p.d)).setCell ⟨w.heap.size, 4, none⟩ (.int .i64 p.n) = W at *
    have lbg : b < w.heap.size := lb
    obtain ⟨g, hg⟩ : ∃ g, w.heap.size = g := ⟨_, rfl⟩
    rw [hg] at y0 y1 y2 y3 y4 zl zg ⊢
    have zg2 : b < g := by omega
    clear zg
    have zg : b < g := zg2
    have PW := Lib.hid (HP.out.later bW)
    have kW := held_below bW k
    obtain ⟨q0, v0, -, kv, -⟩ := PW.out.kn i j hi hj
    rw [← Nat.add_assoc] at kv
    have lbW := PW.out.lt
    have fW := PW.out.free
    have hgb : g ≠ b := by omega
    have hbg : b ≠ g := by omega
    clear k hw1 hc1 c1 HP a0 a1 a2 a3 a4 b0 b1 b2 b3 b4
    go_wp2
    go_region_held3 (fun w' => w'.cell? ⟨g, 0, none⟩ = some (.int .i64 p.a) ∧ w'.cell? ⟨g, 1, none⟩ = some (.int .i64 p.b) ∧ w'.cell? ⟨g, 2, none⟩ = some (.int .i64 p.c) ∧ w'.cell? ⟨g, 3, none⟩ = some (.int .i64 p.d) ∧ w'.cell? ⟨g, 4, none⟩ = some (.int .i64 p.n))
      (first
        | go_keep
        | (exact ⟨held_below (W := W) (by repeat (first | (with_reducible exact Below.refl _ _) | (with_reducible refine Below.setCell ?_ ?_ _) | (with_reducible refine Below.drew ?_) | (with_reducible refine Below.alloc ?_ ?_ _) | (with_reducible refine Below.trans ?_ (Below.mono hw2 ?_)) | (with_reducible exact hw2.size) | omega | (simp <;> omega) | (simp <;> (have s := hw2.size; omega)) | (have s0 := hw2.size; (try simp at s0); (try simp); omega))) y0, held_below (W := W) (by repeat (first | (with_reducible exact Below.refl _ _) | (with_reducible refine Below.setCell ?_ ?_ _) | (with_reducible refine Below.drew ?_) | (with_reducible refine Below.alloc ?_ ?_ _) | (with_reducible refine Below.trans ?_ (Below.mono hw2 ?_)) | (with_reducible exact hw2.size) | omega | (simp <;> omega) | (simp <;> (have s := hw2.size; omega)) | (have s0 := hw2.size; (try simp at s0); (try simp); omega))) y1, held_below (W := W) (by repeat (first | (with_reducible exact Below.refl _ _) | (with_reducible refine Below.setCell ?_ ?_ _) | (with_reducible refine Below.drew ?_) | (with_reducible refine Below.alloc ?_ ?_ _) | (with_reducible refine Below.trans ?_ (Below.mono hw2 ?_)) | (with_reducible exact hw2.size) | omega | (simp <;> omega) | (simp <;> (have s := hw2.size; omega)) | (have s0 := hw2.size; (try simp at s0); (try simp); omega))) y2, held_below (W := W) (by repeat (first | (with_reducible exact Below.refl _ _) | (with_reducible refine Below.setCell ?_ ?_ _) | (with_reducible refine Below.drew ?_) | (with_reducible refine Below.alloc ?_ ?_ _) | (with_reducible refine Below.trans ?_ (Below.mono hw2 ?_)) | (with_reducible exact hw2.size) | omega | (simp <;> omega) | (simp <;> (have s := hw2.size; omega)) | (have s0 := hw2.size; (try simp at s0); (try simp); omega))) y3, held_below (W := W) (by repeat (first | (with_reducible exact Below.refl _ _) | (with_reducible refine Below.setCell ?_ ?_ _) | (with_reducible refine Below.drew ?_) | (with_reducible refine Below.alloc ?_ ?_ _) | (with_reducible refine Below.trans ?_ (Below.mono hw2 ?_)) | (with_reducible exact hw2.size) | omega | (simp <;> omega) | (simp <;> (have s := hw2.size; omega)) | (have s0 := hw2.size; (try simp at s0); (try simp); omega))) y4⟩)
        | (refine ⟨?_, ?_, ?_, ?_, ?_⟩ <;> ((repeat rw [World.cell?_setCell_other _ _ _ _ (by simp; exact fun h => absurd h hbg)]); first | exact held_below bw2 y0 | exact held_below bw2 y1 | exact held_below bw2 y2 | exact held_below bw2 y3 | exact held_below bw2 y4)))
      (((with_reducible refine (c2 _).mono ?_); rintro e w2 ⟨rfl, hw2⟩; have bw2 : Below W.heap.size W w2 := ⟨hw2.os, hw2.tape, hw2.output, hw2.size, hw2.block⟩; have xk := held_below (W := W) bw2 kv; have xi := held_below (W := W) bw2 kW; have xf : ∀ j, w2.frozen? ⟨b, j, none⟩ = false := fun j => (bw2.frozen (p := ⟨b, j, none⟩) lbW).trans (fW j)))
    have G1 : w.grownBy w2 (some b) := grown_ofB (by repeat (first | (with_reducible exact Below.refl _ _) | (with_reducible refine Below.setCell ?_ ?_ _) | (with_reducible refine Below.drew ?_) | (with_reducible refine Below.alloc ?_ ?_ _) | (with_reducible refine Below.trans ?_ (Below.mono bw2 ?_)) | (with_reducible refine Below.trans ?_ (Below.mono bW ?_)) | (with_reducible exact bw2.size) | (with_reducible exact bW.size) | omega | (simp <;> omega) | (simp <;> (have s := bw2.size; omega)) | (simp <;> (have s := bW.size; omega)) | (have s0 := bw2.size; (try simp at s0); have s1 := bW.size; (try simp at s1); (try simp); omega)))
    have P2 := Lib.hid (PW.out.later bw2)
    have lb2 := P2.out.lt
    clear hw2 y0 y1 y2 y3 y4
    go_wp2
    go_ret
    refine ⟨rfl, (G1.trans (grown_setCell _ ⟨b, _, none⟩ _)).trans (grown_setCell _ ⟨b, _, none⟩ _), ?_⟩
    have := P2.out.put hi hj (v := nm p) (by rw [hx, hy, hP.out])
    simpa only [← Nat.add_assoc] using this
/-- The product of two small units by their numbers; what was asked is known then. -/
theorem timesN_any (b : Nat) (x y : Q) (w : World) (hp : PR w b) (hx : IsS x) (hy : IsS y) :
    Calls Try.prog 117 #[.pointer (some ⟨b, 0, none⟩), .int .i64 (nm x), .int .i64 (nm y)] w fun e w' => e = .returned (.int .i64 (nm (low (mul x y)))) ∧ w.grownBy w' (some b) ∧ PR w' b := by
  obtain ⟨i, hi, e1, rfl⟩ := hx.nmN
  obtain ⟨j, hj, e2, rfl⟩ := hy.nmN
  rw [e1, e2]
  obtain ⟨q, v, k1, k2, k3⟩ := hp.kn i j hi hj
  cases q with
  | true =>
    rw [k3 rfl] at k2
    exact (times_known b i j _ w k1 k2 hi hj).mono fun e w' ⟨he, hw⟩ => ⟨he, hw ▸ grown_ofB (Below.refl _ _), hw ▸ hp⟩
  | false => exact times_new b i j w hp hi hj k1
theorem mulT_eq (x n : Int) (h0 : -2 ≤ x) (h2 : x ≤ 2) : IntKind.i64.wrap (2 * x) = 2 * x := IntWalk.i64_in _ (by omega)
set_option maxHeartbeats 3200000 in
theorem twice_any (b : Nat) (x : Q) (w : World) (hp : PR w b) (hx : IsS x) : Calls Try.prog 92 #[.pointer (some ⟨b, 0, none⟩), .int .i64 (nm x)] w fun e w' => e = .returned (.agg #[.int .i64 (tb x), .int .i64 (tc x), .int .i64 (td x)]) ∧ Below w.heap.size w w' := by
  obtain ⟨i, hi, e1, hs⟩ := hx.nmN
  obtain ⟨a0, a1, a2, a3, a4⟩ := hp.un i hi
  rw [hs] at a0 a1 a2 a3 a4
  rw [e1]
  obtain ⟨⟨b1, b2⟩, ⟨c1, c2⟩, ⟨d1, d2⟩, hn, ⟨t1, t2⟩, ⟨t3, t4⟩, ⟨t5, t6⟩⟩ := hx.tw
  have lb := hp.lt
  have HB := Lib.hid (show (2 * x.b).tdiv x.n = tb x from rfl)
  have HC := Lib.hid (show (2 * x.c).tdiv x.n = tc x from rfl)
  have HD := Lib.hid (show (2 * x.d).tdiv x.n = td x from rfl)
  have i1 : (i : Int) < 24 := by omega
  clear hp hx hs e1
  generalize tb x = rb at *
  generalize tc x = rc at *
  generalize td x = rd at *
  obtain ⟨xa, xb, xc, xd, xn⟩ := x
  simp only at *
  have kc := @Tail.cell_re
  have kc1 : ∀ (W : World) (o : Obj) (d : Nat) (os : Array Obj) (a : Addr), a.block ≤ W.heap.size → (Sort.grow (redrawn (W.alloc o) d) os).cell? a = (W.alloc o).cell? a := fun W o d os a h => Tail.cell_re (W.alloc o) d os a (Nat.lt_of_le_of_lt h (by simp))
  have q2 : ∀ z : Int, (2 * z).tdiv 2 = z := fun z => Int.mul_tdiv_cancel_left z (by decide)
  rcases hn with rfl | rfl
  all_goals
    have e0 := HB.out
    have e1 := HC.out
    have e2 := HD.out
    first | simp only [Int.tdiv_one] at e0 e1 e2 | simp only [q2] at e0 e1 e2
    subst e0 e1 e2
    clear HB HC HD q2
    go_enter Try.func92, Try.ntmps92
    go_wp2
    refine Tail.region_tail_below 19 (by kernel_rfl) (by kernel_rfl) ?_
    simp only [List.take_succ_cons, List.take_zero]
    repeat (go_big_quiet_step (fail))
    refine wpQuiet_nil ?_
    intro w1 hw1
    have hc1 := Tail.cells hw1
    have u0 : w1.cell? ⟨w.heap.size, 0, none⟩ = some (.int .i64 0) := (hc1.1 w.heap.size 0 (by simp <;> omega)).trans (by simp [go_sem])
    have u1 : w1.cell? ⟨w.heap.size, 1, none⟩ = some (.int .i64 0) := (hc1.1 w.heap.size 1 (by simp <;> omega)).trans (by simp [go_sem])
    have u2 : w1.cell? ⟨w.heap.size, 2, none⟩ = some (.int .i64 0) := (hc1.1 w.heap.size 2 (by simp <;> omega)).trans (by simp [go_sem])
    have z0 : w.heap.size < w1.heap.size := Nat.lt_of_lt_of_le (by simp <;> omega) hw1.size
    go_wp2
    refine bodyPost_ret (v := _) (by simp [results, Try.results92, go_sem, u0, u1, u2, z0]; try rfl) rfl ⟨rfl, ?_⟩
    repeat (first | (with_reducible exact Below.refl _ _) | (with_reducible refine Below.setCell ?_ ?_ _) | (with_reducible refine Below.drew ?_) | (with_reducible refine Below.alloc ?_ ?_ _) | (with_reducible refine Below.trans ?_ (Below.mono hw1 ?_)) | (with_reducible exact hw1.size) | omega | (simp <;> omega) | (simp <;> (have s := hw1.size; omega)) | (have s0 := hw1.size; (try simp at s0); (try simp); omega))
end Go.Proofs.Ytilbhcjnkmeecaa
