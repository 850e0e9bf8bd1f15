/- PathValidates: which fields and momenta are valid, and the opposite momenta, is what the document says, for all fields and lists.
Conditions: none. -/
import Derived.Test.YtilbhcjnkmeecaaSane6
import Derived.Test.YtilbhcjnkmeecaaKickB
import Derived.Test.YtilbhcjnkmeecaaOpenKA
import Derived.Test.YtilbhcjnkmeecaaLawValF
import Derived.Test.YtilbhcjnkmeecaaJFacts
namespace Go.Proofs.Ytilbhcjnkmeecaa
set_option linter.unusedVariables false
set_option linter.unusedSimpArgs false
set_option maxRecDepth 1000000
open Go.ChangeShapes Go.WideShapes Go.ChangeAt Go.RowKit
open Um Tm Cm Km

set_option maxHeartbeats 800000 in
theorem long6_any (a b c : Int) (ao po : Option Addr) (cap pc m n : Nat) (r : Bool) (w : World) (h : (m ≤ 100 ∧ n ≤ 100 ∧ r = false) ∨ ((100 < m ∨ 100 < n) ∧ r = true)) : Calls Try.prog 12 #[.agg #[.int .i64 a, .int .i64 b, .int .i64 c, .slice ao m cap], .slice po n pc] w fun e w' => e = .returned (.bool r) ∧ Below w.heap.size w w' := by
  rcases h with ⟨h, h', rfl⟩ | ⟨h, rfl⟩
  · have c1 := fun W : World => long_any a b c ao cap m false W (.inl ⟨h, rfl⟩)
    have h2 : decide ((100 : Int) < (n : Int)) = false := decide_eq_false (by omega)
    clear h
    go_enter Try.func12, Try.ntmps12
    go_wp2_with (first | ((with_reducible refine (c1 _).mono ?_); clear c1; rintro e w1 ⟨rfl, hw1⟩; have hc1 := Tail.cells hw1; have s1 := hw1.size; (try simp at s1); (try have z1_0 : w.heap.size < w1.heap.size := (by omega)); clear s1))
    go_ret
    exact ⟨rfl, by repeat (first | (with_reducible exact Below.refl _ _) | (with_reducible refine Below.setCell ?_ ?_ _) | (with_reducible refine Below.drew ?_) | (with_reducible refine Below.alloc ?_ ?_ _) | (with_reducible refine Below.trans ?_ (Below.mono hw1 ?_)) | (with_reducible exact hw1.size) | omega | (simp <;> omega) | (simp <;> (have s := hw1.size; omega)) | (have s0 := hw1.size; (try simp at s0); (try simp); omega))⟩
  · by_cases hm : 100 < m
    · have c1 := fun W : World => long_any a b c ao cap m true W (.inr ⟨hm, rfl⟩)
      clear h
      go_enter Try.func12, Try.ntmps12
      go_wp2_with (first | ((with_reducible refine (c1 _).mono ?_); clear c1; rintro e w1 ⟨rfl, hw1⟩; have hc1 := Tail.cells hw1; have s1 := hw1.size; (try simp at s1); (try have z1_0 : w.heap.size < w1.heap.size := (by omega)); clear s1))
      go_ret
      exact ⟨rfl, by repeat (first | (with_reducible exact Below.refl _ _) | (with_reducible refine Below.setCell ?_ ?_ _) | (with_reducible refine Below.drew ?_) | (with_reducible refine Below.alloc ?_ ?_ _) | (with_reducible refine Below.trans ?_ (Below.mono hw1 ?_)) | (with_reducible exact hw1.size) | omega | (simp <;> omega) | (simp <;> (have s := hw1.size; omega)) | (have s0 := hw1.size; (try simp at s0); (try simp); omega))⟩
    · have c1 := fun W : World => long_any a b c ao cap m false W (.inl ⟨by omega, rfl⟩)
      have h2 : decide ((100 : Int) < (n : Int)) = true := decide_eq_true (by omega)
      clear h
      go_enter Try.func12, Try.ntmps12
      go_wp2_with (first | ((with_reducible refine (c1 _).mono ?_); clear c1; rintro e w1 ⟨rfl, hw1⟩; have hc1 := Tail.cells hw1; have s1 := hw1.size; (try simp at s1); (try have z1_0 : w.heap.size < w1.heap.size := (by omega)); clear s1))
      go_ret
      exact ⟨rfl, by repeat (first | (with_reducible exact Below.refl _ _) | (with_reducible refine Below.setCell ?_ ?_ _) | (with_reducible refine Below.drew ?_) | (with_reducible refine Below.alloc ?_ ?_ _) | (with_reducible refine Below.trans ?_ (Below.mono hw1 ?_)) | (with_reducible exact hw1.size) | omega | (simp <;> omega) | (simp <;> (have s := hw1.size; omega)) | (have s0 := hw1.size; (try simp at s0); (try simp); omega))⟩
theorem sameK_true (a1 a2 : Option Addr) (c1 c2 n : Nat) (l : List Int) (w : World) (h1 : LiesOI w a1 l) (h2 : LiesOI w a2 l) (hn : l.length = n * 3) (hlen : n ≤ 1000000) :
    Calls Try.prog 18 #[.slice a1 n c1, .slice a2 n c2] w fun e w' => e = .returned (.bool true) ∧ Below w.heap.size w w' := by
  have := sameK_any a1 a2 c1 c2 n n l l w h1 h2 hn hn hlen
  rwa [decide_eq_true rfl] at this
theorem liesI_re {W : World} {b off : Nat} {l : List Int} (h : LiesI W b off l) (d : Nat) (os : Array Obj) : LiesI (Sort.grow (redrawn W d) os) b off l := fun i x hx => by
  have f := h i x hx
  rw [Tail.cell_re W d os _ (World.block_lt_of_cell? W _ f)]
  exact f
set_option maxHeartbeats 3200000 in
theorem pathValidates_bad (a b c r0 r : Int) (ao po : Option Addr) (L : List Q) (ns l : List Int) (cap pc n : Nat) (w : World) (hl : L.length ≤ 100) (hn : n ≤ 100) (hm : LiesO w ao L) (hp : LiesOI w po l) (hpl : l.length = n * 3) (hr : numsR a b c L ns r0) (hv : vkR L.length n l r0 r) (h0 : r ≠ 0) : Calls Try.prog 3 #[.agg #[.int .i64 a, .int .i64 b, .int .i64 c, .slice ao L.length cap], .slice po n pc] w fun e w' => e = .returned (.bool true) ∧ Below w.heap.size w w' := by
  have kn := known6_any
  have lg := fun W : World => long6_any a b c ao po cap pc L.length n false W (.inl ⟨hl, hn, rfl⟩)
  have c1 := fun (W : World) (h : LiesO W ao L) (h2 : LiesOI W po l) => reverse_bad a b c r0 r ao po cap pc n L ns l W h h2 hpl hr hv h0 (by omega)
  have c2 := fun (W : World) (h : LiesO W ao L) (h2 : LiesOI W po l) => refReverse_bad a b c r0 r ao po cap pc n L ns l W h h2 hpl hr hv h0 (by omega)
  have v1 := fun (W : World) (h : LiesO W ao L) (h2 : LiesOI W po l) => validateK_any a b c r0 r ao po cap pc n L ns l W h h2 hpl hr hv (by omega)
  have v2 := fun (W : World) (h : LiesO W ao L) (h2 : LiesOI W po l) => refValidateK_any a b c r0 r ao po cap pc n L ns l W h h2 hpl hr hv (by omega)
  have sk := fun W : World => sameK_nil none none 0 0 W
  obtain ⟨t, ht, ht0⟩ : ∃ t, vkR L.length 0 [] r0 t ∧ t ≠ 0 := by
    by_cases h : r0 = 0
    · refine ⟨1, .inr (.inl ⟨h, fun hL => ?_, rfl⟩), by decide⟩
      rcases hr with ⟨_, h', _⟩ | ⟨hr, _⟩
      · exact h' h
      · obtain ⟨z, k, _⟩ := fldR_ok hr
        obtain ⟨m, hm, hm0, _⟩ := size_ex z
        omega
    · exact ⟨r0, .inl ⟨h, rfl⟩, h⟩
  have c3 := fun (W : World) (h : LiesO W ao L) => reverse_bad a b c r0 t ao none cap 0 0 L ns [] W h (.inl rfl) rfl hr ht ht0 (by omega)
  have h0' : (r != 0) = true := by simpa using h0
  have H := Lib.hid hm
  have HP := Lib.hid hp
  clear hr hv h0 ht ht0 hm hp
  have kc := @Tail.cell_re; have kc1 : ∀ (W : World) (o : Obj) (d : Nat) (os : Array Obj) (a : Addr), a.block ≤ W.heap.size → (Sort.grow (redrawn (W.alloc o) d) os).cell? a = (W.alloc o).cell? a := fun W o d os a h => Tail.cell_re (W.alloc o) d os a (Nat.lt_of_le_of_lt h (by simp))
  go_enter Try.func3, Try.ntmps3
  go_wp2_with (first | ((with_reducible refine (lg _).mono ?_); clear lg; rintro e w1 ⟨rfl, hw1⟩; have hc1 := Tail.cells hw1; have z1 := Nat.lt_of_lt_of_le (n := w.heap.size) (by simp) hw1.size) | ((with_reducible refine (c1 _ (H.out.later (by repeat (first | (with_reducible exact Below.refl _ _) | (with_reducible refine Below.setCell ?_ ?_ _) | (with_reducible refine Below.drew ?_) | (with_reducible refine Below.alloc ?_ ?_ _) | (with_reducible refine Below.trans ?_ (Below.mono hw1 ?_)) | (with_reducible exact hw1.size) | omega | (simp <;> omega) | (simp <;> (have s := hw1.size; omega)) | (have s0 := hw1.size; (try simp at s0); (try simp); omega)))) (HP.out.later (by repeat (first | (with_reducible exact Below.refl _ _) | (with_reducible refine Below.setCell ?_ ?_ _) | (with_reducible refine Below.drew ?_) | (with_reducible refine Below.alloc ?_ ?_ _) | (with_reducible refine Below.trans ?_ (Below.mono hw1 ?_)) | (with_reducible exact hw1.size) | omega | (simp <;> omega) | (simp <;> (have s := hw1.size; omega)) | (have s0 := hw1.size; (try simp at s0); (try simp); omega))))).mono ?_); clear c1; rintro e w2 ⟨rfl, hw2⟩; have hc2 := Tail.cells hw2; have z2 := Nat.lt_of_lt_of_le z1 hw2.size) | ((with_reducible refine (c2 _ (H.out.later (by repeat (first | (with_reducible exact Below.refl _ _) | (with_reducible refine Below.setCell ?_ ?_ _) | (with_reducible refine Below.drew ?_) | (with_reducible refine Below.alloc ?_ ?_ _) | (with_reducible refine Below.trans ?_ (Below.mono hw2 ?_)) | (with_reducible refine Below.trans ?_ (Below.mono hw1 ?_)) | (with_reducible exact hw2.size) | (with_reducible exact hw1.size) | omega | (simp <;> omega) | (simp <;> (have s := hw2.size; omega)) | (simp <;> (have s := hw1.size; omega)) | (have s0 := hw2.size; (try simp at s0); have s1 := hw1.size; (try simp at s1); (try simp); omega)))) (HP.out.later (by repeat (first | (with_reducible exact Below.refl _ _) | (with_reducible refine Below.setCell ?_ ?_ _) | (with_reducible refine Below.drew ?_) | (with_reducible refine Below.alloc ?_ ?_ _) | (with_reducible refine Below.trans ?_ (Below.mono hw2 ?_)) | (with_reducible refine Below.trans ?_ (Below.mono hw1 ?_)) | (with_reducible exact hw2.size) | (with_reducible exact hw1.size) | omega | (simp <;> omega) | (simp <;> (have s := hw2.size; omega)) | (simp <;> (have s := hw1.size; omega)) | (have s0 := hw2.size; (try simp at s0); have s1 := hw1.size; (try simp at s1); (try simp); omega))))).mono ?_); clear c2; rintro e w3 ⟨rfl, hw3⟩; have hc3 := Tail.cells hw3; have z3 := Nat.lt_of_lt_of_le z2 hw3.size))
  have HO3 := H.out.later (show Below w.heap.size w w3 by repeat (first | (with_reducible exact Below.refl _ _) | (with_reducible refine Below.setCell ?_ ?_ _) | (with_reducible refine Below.drew ?_) | (with_reducible refine Below.alloc ?_ ?_ _) | (with_reducible refine Below.trans ?_ (Below.mono hw3 ?_)) | (with_reducible refine Below.trans ?_ (Below.mono hw2 ?_)) | (with_reducible refine Below.trans ?_ (Below.mono hw1 ?_)) | (with_reducible exact hw3.size) | (with_reducible exact hw2.size) | (with_reducible exact hw1.size) | omega | (simp <;> omega) | (simp <;> (have s := hw3.size; omega)) | (simp <;> (have s := hw2.size; omega)) | (simp <;> (have s := hw1.size; omega)) | (have s0 := hw3.size; (try simp at s0); have s1 := hw2.size; (try simp at s1); have s2 := hw1.size; (try simp at s2); (try simp); omega)))
  have HP3 := HP.out.later (show Below w.heap.size w w3 by repeat (first | (with_reducible exact Below.refl _ _) | (with_reducible refine Below.setCell ?_ ?_ _) | (with_reducible refine Below.drew ?_) | (with_reducible refine Below.alloc ?_ ?_ _) | (with_reducible refine Below.trans ?_ (Below.mono hw3 ?_)) | (with_reducible refine Below.trans ?_ (Below.mono hw2 ?_)) | (with_reducible refine Below.trans ?_ (Below.mono hw1 ?_)) | (with_reducible exact hw3.size) | (with_reducible exact hw2.size) | (with_reducible exact hw1.size) | omega | (simp <;> omega) | (simp <;> (have s := hw3.size; omega)) | (simp <;> (have s := hw2.size; omega)) | (simp <;> (have s := hw1.size; omega)) | (have s0 := hw3.size; (try simp at s0); have s1 := hw2.size; (try simp at s1); have s2 := hw1.size; (try simp at s2); (try simp); omega)))
  refine Tail.region_below (by kernel_rfl) (by kernel_rfl) ?_
  repeat (go_big_quiet_step (first | (with_reducible exact Calls.regrown_of (v1 _ (liesO_re HO3 _ _) (liesOI_re HP3 _ _))) | (with_reducible exact Calls.regrown_of (v2 _ (liesO_re HO3 _ _) (liesOI_re HP3 _ _))) | (with_reducible exact Calls.regrown_of (sk _))))
  refine wpQuiet_nil ?_
  intro w9 hw9
  have hc9 := Tail.cells hw9
  have z9 := Nat.lt_of_lt_of_le z3 hw9.size
  go_wp2_with (first | ((with_reducible refine (c3 _ (H.out.later (by repeat (first | (with_reducible exact Below.refl _ _) | (with_reducible refine Below.setCell ?_ ?_ _) | (with_reducible refine Below.drew ?_) | (with_reducible refine Below.alloc ?_ ?_ _) | (with_reducible refine Below.trans ?_ (Below.mono hw9 ?_)) | (with_reducible refine Below.trans ?_ (Below.mono hw3 ?_)) | (with_reducible refine Below.trans ?_ (Below.mono hw2 ?_)) | (with_reducible refine Below.trans ?_ (Below.mono hw1 ?_)) | (with_reducible exact hw9.size) | (with_reducible exact hw3.size) | (with_reducible exact hw2.size) | (with_reducible exact hw1.size) | omega | (simp <;> omega) | (simp <;> (have s := hw9.size; omega)) | (simp <;> (have s := hw3.size; omega)) | (simp <;> (have s := hw2.size; omega)) | (simp <;> (have s := hw1.size; omega)) | (have s0 := hw9.size; (try simp at s0); have s1 := hw3.size; (try simp at s1); have s2 := hw2.size; (try simp at s2); have s3 := hw1.size; (try simp at s3); (try simp); omega))))).mono ?_); clear c3; rintro e w4 ⟨rfl, hw4⟩; have hc4 := Tail.cells hw4; have z4 := Nat.lt_of_lt_of_le z9 hw4.size) | ((with_reducible refine (kn _).mono ?_); rintro e w5 ⟨rfl, hw5⟩))
  go_ret
  exact ⟨rfl, by repeat (first | (with_reducible exact Below.refl _ _) | (with_reducible refine Below.setCell ?_ ?_ _) | (with_reducible refine Below.drew ?_) | (with_reducible refine Below.alloc ?_ ?_ _) | (with_reducible refine Below.trans ?_ (Below.mono hw5 ?_)) | (with_reducible refine Below.trans ?_ (Below.mono hw4 ?_)) | (with_reducible refine Below.trans ?_ (Below.mono hw9 ?_)) | (with_reducible refine Below.trans ?_ (Below.mono hw3 ?_)) | (with_reducible refine Below.trans ?_ (Below.mono hw2 ?_)) | (with_reducible refine Below.trans ?_ (Below.mono hw1 ?_)) | (with_reducible exact hw5.size) | (with_reducible exact hw4.size) | (with_reducible exact hw9.size) | (with_reducible exact hw3.size) | (with_reducible exact hw2.size) | (with_reducible exact hw1.size) | omega | (simp <;> omega) | (simp <;> (have s := hw5.size; omega)) | (simp <;> (have s := hw4.size; omega)) | (simp <;> (have s := hw9.size; omega)) | (simp <;> (have s := hw3.size; omega)) | (simp <;> (have s := hw2.size; omega)) | (simp <;> (have s := hw1.size; omega)) | (have s0 := hw5.size; (try simp at s0); have s1 := hw4.size; (try simp at s1); have s2 := hw9.size; (try simp at s2); have s3 := hw3.size; (try simp at s3); have s4 := hw2.size; (try simp at s4); have s5 := hw1.size; (try simp at s5); (try simp); omega))⟩
set_option maxHeartbeats 3200000 in
theorem pathValidates_ok (a b c : Int) (ao po : Option Addr) (L : List Q) (ns l : List Int) (cap pc n : Nat) (w : World) (hl : L.length ≤ 100) (hm : LiesO w ao L) (hp : LiesOI w po l) (hpl : l.length = n * 3) (hr : numsR a b c L ns 0) (hv : vkR L.length n l 0 0) : Calls Try.prog 3 #[.agg #[.int .i64 a, .int .i64 b, .int .i64 c, .slice ao L.length cap], .slice po n pc] w fun e w' => e = .returned (.bool true) ∧ Below w.heap.size w w' := by
  have hfr : fldR a b c L 0 := by
    rcases hr with ⟨_, h', _⟩ | ⟨hr, _⟩
    · exact absurd rfl h'
    · exact hr
  have hL48 := fld_len hfr
  obtain ⟨z, k, -⟩ := fldR_ok hfr
  obtain ⟨m, hm1, hm0, -⟩ := size_ex z
  have hnL : n = L.length ∧ AllN l := by
    rcases hv with ⟨h, -⟩ | ⟨-, h, h'⟩ | ⟨-, h, ⟨h', -⟩ | ⟨-, h'⟩⟩
    · exact absurd rfl h
    · omega
    · exact ⟨h, h'⟩
    · omega
  obtain ⟨hnL, hall⟩ := hnL
  have hn0 : 0 < n := by omega
  obtain ⟨pb, pf, rfl, hp1⟩ : ∃ b off, po = some ⟨b, off, none⟩ ∧ LiesI w b off l := by
    rcases hp with rfl | h
    · simp at hpl; omega
    · exact h
  have hpl2 : (l.map oppN).length = n * 3 := by rw [List.length_map, hpl]
  have hv2 : vkR L.length n (l.map oppN) 0 0 := .inr (.inr ⟨rfl, hnL, .inl ⟨alln_opp hall, rfl⟩⟩)
  have kn := known6_any
  have lg := fun W : World => long6_any a b c ao (some ⟨pb, pf, none⟩) cap pc L.length n false W (.inl ⟨hl, by omega, rfl⟩)
  have c1 := fun (W : World) (h : LiesO W ao L) (h2 : LiesI W pb pf l) => reverse_ok a b c ao cap pb pf pc n L ns l W h h2 hpl hr hv hL48
  have c2 := fun (W : World) (h : LiesO W ao L) (h2 : LiesI W pb pf l) => refReverse_ok a b c ao cap pb pf pc n L ns l W h h2 hpl hr hv hn0 hL48
  have c3 := fun (g k : Nat) (W : World) (h : LiesO W ao L) (h2 : LiesI W g 0 (l.map oppN)) => reverse_ok a b c ao cap g 0 k n L ns (l.map oppN) W h h2 hpl2 hr hv2 hL48
  rw [opp_opp_l hall] at c3
  have v1 := fun (W : World) (h : LiesO W ao L) (h2 : LiesI W pb pf l) => validateK_any a b c 0 0 ao (some ⟨pb, pf, none⟩) cap pc n L ns l W h (.inr ⟨pb, pf, rfl, h2⟩) hpl hr hv (by omega)
  have v2 := fun (W : World) (h : LiesO W ao L) (h2 : LiesI W pb pf l) => refValidateK_any a b c 0 0 ao (some ⟨pb, pf, none⟩) cap pc n L ns l W h (.inr ⟨pb, pf, rfl, h2⟩) hpl hr hv (by omega)
  have sk := fun (g1 k1 g2 k2 : Nat) (W : World) (h1 : LiesI W g1 0 (l.map oppN)) (h2 : LiesI W g2 0 (l.map oppN)) => sameK_true (some ⟨g1, 0, none⟩) (some ⟨g2, 0, none⟩) k1 k2 n (l.map oppN) W (.inr ⟨g1, 0, rfl, h1⟩) (.inr ⟨g2, 0, rfl, h2⟩) hpl2 (by omega)
  have sk2 := fun (g1 k1 : Nat) (W : World) (h1 : LiesI W g1 0 l) (h2 : LiesI W pb pf l) => sameK_true (some ⟨g1, 0, none⟩) (some ⟨pb, pf, none⟩) k1 pc n l W (.inr ⟨g1, 0, rfl, h1⟩) (.inr ⟨pb, pf, rfl, h2⟩) hpl (by omega)
  have H := Lib.hid hm
  have HP := Lib.hid hp1
  clear hr hv hm hp hp1 hfr k z hpl hpl2 hv2 hall hnL hm1 hm0 hn0
  generalize l.map oppN = o at *
  have kc := @Tail.cell_re; have kc1 : ∀ (W : World) (o : Obj) (d : Nat) (os : Array Obj) (a : Addr), a.block ≤ W.heap.size → (Sort.grow (redrawn (W.alloc o) d) os).cell? a = (W.alloc o).cell? a := fun W o d os a h => Tail.cell_re (W.alloc o) d os a (Nat.lt_of_le_of_lt h (by simp))
  go_enter Try.func3, Try.ntmps3
  go_wp2_with (first | ((with_reducible refine (lg _).mono ?_); clear lg; rintro e w1 ⟨rfl, hw1⟩; have hc1 := Tail.cells hw1; have z1 := Nat.lt_of_lt_of_le (n := w.heap.size) (by simp) hw1.size) | ((with_reducible refine (c1 _ (H.out.later (by repeat (first | (with_reducible exact Below.refl _ _) | (with_reducible refine Below.setCell ?_ ?_ _) | (with_reducible refine Below.drew ?_) | (with_reducible refine Below.alloc ?_ ?_ _) | (with_reducible refine Below.trans ?_ (Below.mono hw1 ?_)) | (with_reducible exact hw1.size) | omega | (simp <;> omega) | (simp <;> (have s := hw1.size; omega)) | (have s0 := hw1.size; (try simp at s0); (try simp); omega)))) (HP.out.later (by repeat (first | (with_reducible exact Below.refl _ _) | (with_reducible refine Below.setCell ?_ ?_ _) | (with_reducible refine Below.drew ?_) | (with_reducible refine Below.alloc ?_ ?_ _) | (with_reducible refine Below.trans ?_ (Below.mono hw1 ?_)) | (with_reducible exact hw1.size) | omega | (simp <;> omega) | (simp <;> (have s := hw1.size; omega)) | (have s0 := hw1.size; (try simp at s0); (try simp); omega))))).mono ?_); clear c1; rintro e w2 ⟨⟨g1, k1, rfl, hl1, hg1⟩, hw2⟩; have hc2 := Tail.cells hw2; have z2 := Nat.lt_of_lt_of_le z1 hw2.size; have HL1 := Lib.hid hl1; clear hl1) | ((with_reducible refine (c2 _ (H.out.later (by repeat (first | (with_reducible exact Below.refl _ _) | (with_reducible refine Below.setCell ?_ ?_ _) | (with_reducible refine Below.drew ?_) | (with_reducible refine Below.alloc ?_ ?_ _) | (with_reducible refine Below.trans ?_ (Below.mono hw2 ?_)) | (with_reducible refine Below.trans ?_ (Below.mono hw1 ?_)) | (with_reducible exact hw2.size) | (with_reducible exact hw1.size) | omega | (simp <;> omega) | (simp <;> (have s := hw2.size; omega)) | (simp <;> (have s := hw1.size; omega)) | (have s0 := hw2.size; (try simp at s0); have s1 := hw1.size; (try simp at s1); (try simp); omega)))) (HP.out.later (by repeat (first | (with_reducible exact Below.refl _ _) | (with_reducible refine Below.setCell ?_ ?_ _) | (with_reducible refine Below.drew ?_) | (with_reducible refine Below.alloc ?_ ?_ _) | (with_reducible refine Below.trans ?_ (Below.mono hw2 ?_)) | (with_reducible refine Below.trans ?_ (Below.mono hw1 ?_)) | (with_reducible exact hw2.size) | (with_reducible exact hw1.size) | omega | (simp <;> omega) | (simp <;> (have s := hw2.size; omega)) | (simp <;> (have s := hw1.size; omega)) | (have s0 := hw2.size; (try simp at s0); have s1 := hw1.size; (try simp at s1); (try simp); omega))))).mono ?_); clear c2; rintro e w3 ⟨⟨g2, k2, rfl, hl2, hg2⟩, hw3⟩; have hc3 := Tail.cells hw3; have z3 := Nat.lt_of_lt_of_le z2 hw3.size; have HL2 := Lib.hid hl2; clear hl2))
  have HO3 := H.out.later (show Below w.heap.size w w3 by repeat (first | (with_reducible exact Below.refl _ _) | (with_reducible refine Below.setCell ?_ ?_ _) | (with_reducible refine Below.drew ?_) | (with_reducible refine Below.alloc ?_ ?_ _) | (with_reducible refine Below.trans ?_ (Below.mono hw3 ?_)) | (with_reducible refine Below.trans ?_ (Below.mono hw2 ?_)) | (with_reducible refine Below.trans ?_ (Below.mono hw1 ?_)) | (with_reducible exact hw3.size) | (with_reducible exact hw2.size) | (with_reducible exact hw1.size) | omega | (simp <;> omega) | (simp <;> (have s := hw3.size; omega)) | (simp <;> (have s := hw2.size; omega)) | (simp <;> (have s := hw1.size; omega)) | (have s0 := hw3.size; (try simp at s0); have s1 := hw2.size; (try simp at s1); have s2 := hw1.size; (try simp at s2); (try simp); omega)))
  have HP3 := HP.out.later (show Below w.heap.size w w3 by repeat (first | (with_reducible exact Below.refl _ _) | (with_reducible refine Below.setCell ?_ ?_ _) | (with_reducible refine Below.drew ?_) | (with_reducible refine Below.alloc ?_ ?_ _) | (with_reducible refine Below.trans ?_ (Below.mono hw3 ?_)) | (with_reducible refine Below.trans ?_ (Below.mono hw2 ?_)) | (with_reducible refine Below.trans ?_ (Below.mono hw1 ?_)) | (with_reducible exact hw3.size) | (with_reducible exact hw2.size) | (with_reducible exact hw1.size) | omega | (simp <;> omega) | (simp <;> (have s := hw3.size; omega)) | (simp <;> (have s := hw2.size; omega)) | (simp <;> (have s := hw1.size; omega)) | (have s0 := hw3.size; (try simp at s0); have s1 := hw2.size; (try simp at s1); have s2 := hw1.size; (try simp at s2); (try simp); omega)))
  have A3 := HL1.out.later hw3
  have B3 := HL2.out
  refine Tail.region_below (by kernel_rfl) (by kernel_rfl) ?_
  repeat (go_big_quiet_step (first | (with_reducible exact Calls.regrown_of (v1 _ (liesO_re HO3 _ _) (liesI_re HP3 _ _))) | (with_reducible exact Calls.regrown_of (v2 _ (liesO_re HO3 _ _) (liesI_re HP3 _ _))) | (with_reducible exact Calls.regrown_of (sk _ _ _ _ _ (liesI_re A3 _ _) (liesI_re B3 _ _)))))
  refine wpQuiet_nil ?_
  intro w9 hw9
  have hc9 := Tail.cells hw9
  have z9 := Nat.lt_of_lt_of_le z3 hw9.size
  have HA9 := Lib.hid (A3.later hw9)
  clear A3 B3 HO3 HP3
  go_wp2_with (first | ((with_reducible refine (c3 _ _ _ (H.out.later (by repeat (first | (with_reducible exact Below.refl _ _) | (with_reducible refine Below.setCell ?_ ?_ _) | (with_reducible refine Below.drew ?_) | (with_reducible refine Below.alloc ?_ ?_ _) | (with_reducible refine Below.trans ?_ (Below.mono hw9 ?_)) | (with_reducible refine Below.trans ?_ (Below.mono hw3 ?_)) | (with_reducible refine Below.trans ?_ (Below.mono hw2 ?_)) | (with_reducible refine Below.trans ?_ (Below.mono hw1 ?_)) | (with_reducible exact hw9.size) | (with_reducible exact hw3.size) | (with_reducible exact hw2.size) | (with_reducible exact hw1.size) | omega | (simp <;> omega) | (simp <;> (have s := hw9.size; omega)) | (simp <;> (have s := hw3.size; omega)) | (simp <;> (have s := hw2.size; omega)) | (simp <;> (have s := hw1.size; omega)) | (have s0 := hw9.size; (try simp at s0); have s1 := hw3.size; (try simp at s1); have s2 := hw2.size; (try simp at s2); have s3 := hw1.size; (try simp at s3); (try simp); omega)))) HA9.out).mono ?_); clear c3; rintro e w4 ⟨⟨g4, k4, rfl, hl4, hg4⟩, hw4⟩; have hc4 := Tail.cells hw4; have z4 := Nat.lt_of_lt_of_le z9 hw4.size; have HL4 := Lib.hid hl4; clear hl4) | ((with_reducible refine (sk2 _ _ _ HL4.out (HP.out.later (by repeat (first | (with_reducible exact Below.refl _ _) | (with_reducible refine Below.setCell ?_ ?_ _) | (with_reducible refine Below.drew ?_) | (with_reducible refine Below.alloc ?_ ?_ _) | (with_reducible refine Below.trans ?_ (Below.mono hw4 ?_)) | (with_reducible refine Below.trans ?_ (Below.mono hw9 ?_)) | (with_reducible refine Below.trans ?_ (Below.mono hw3 ?_)) | (with_reducible refine Below.trans ?_ (Below.mono hw2 ?_)) | (with_reducible refine Below.trans ?_ (Below.mono hw1 ?_)) | (with_reducible exact hw4.size) | (with_reducible exact hw9.size) | (with_reducible exact hw3.size) | (with_reducible exact hw2.size) | (with_reducible exact hw1.size) | omega | (simp <;> omega) | (simp <;> (have s := hw4.size; omega)) | (simp <;> (have s := hw9.size; omega)) | (simp <;> (have s := hw3.size; omega)) | (simp <;> (have s := hw2.size; omega)) | (simp <;> (have s := hw1.size; omega)) | (have s0 := hw4.size; (try simp at s0); have s1 := hw9.size; (try simp at s1); have s2 := hw3.size; (try simp at s2); have s3 := hw2.size; (try simp at s3); have s4 := hw1.size; (try simp at s4); (try simp); omega))))).mono ?_); rintro e w5 ⟨rfl, hw5⟩) | ((with_reducible refine (kn _).mono ?_); rintro e w6 ⟨rfl, hw6⟩))
  go_ret
  exact ⟨rfl, by repeat (first | (with_reducible exact Below.refl _ _) | (with_reducible refine Below.setCell ?_ ?_ _) | (with_reducible refine Below.drew ?_) | (with_reducible refine Below.alloc ?_ ?_ _) | (with_reducible refine Below.trans ?_ (Below.mono hw6 ?_)) | (with_reducible refine Below.trans ?_ (Below.mono hw5 ?_)) | (with_reducible refine Below.trans ?_ (Below.mono hw4 ?_)) | (with_reducible refine Below.trans ?_ (Below.mono hw9 ?_)) | (with_reducible refine Below.trans ?_ (Below.mono hw3 ?_)) | (with_reducible refine Below.trans ?_ (Below.mono hw2 ?_)) | (with_reducible refine Below.trans ?_ (Below.mono hw1 ?_)) | (with_reducible exact hw6.size) | (with_reducible exact hw5.size) | (with_reducible exact hw4.size) | (with_reducible exact hw9.size) | (with_reducible exact hw3.size) | (with_reducible exact hw2.size) | (with_reducible exact hw1.size) | omega | (simp <;> omega) | (simp <;> (have s := hw6.size; omega)) | (simp <;> (have s := hw5.size; omega)) | (simp <;> (have s := hw4.size; omega)) | (simp <;> (have s := hw9.size; omega)) | (simp <;> (have s := hw3.size; omega)) | (simp <;> (have s := hw2.size; omega)) | (simp <;> (have s := hw1.size; omega)) | (have s0 := hw6.size; (try simp at s0); have s1 := hw5.size; (try simp at s1); have s2 := hw4.size; (try simp at s2); have s3 := hw9.size; (try simp at s3); have s4 := hw3.size; (try simp at s4); have s5 := hw2.size; (try simp at s5); have s6 := hw1.size; (try simp at s6); (try simp); omega))⟩
set_option maxHeartbeats 800000 in
theorem pathValidates_long (a b c : Int) (ao po : Option Addr) (m n cap pc : Nat) (w : World) (h : 100 < m ∨ 100 < n) : Calls Try.prog 3 #[.agg #[.int .i64 a, .int .i64 b, .int .i64 c, .slice ao m cap], .slice po n pc] w fun e w' => e = .returned (.bool true) ∧ Below w.heap.size w w' := by
  have kn := known6_any
  have lg := fun W : World => long6_any a b c ao po cap pc m n true W (.inr ⟨h, rfl⟩)
  clear h
  go_enter Try.func3, Try.ntmps3
  go_wp2_with (first | ((with_reducible refine (lg _).mono ?_); clear lg; rintro e w1 ⟨rfl, hw1⟩; have hc1 := Tail.cells hw1; have s1 := hw1.size; (try simp at s1); (try have z1_0 : w.heap.size < w1.heap.size := (by omega)); clear s1) | ((with_reducible refine (kn _).mono ?_); clear kn; rintro e w2 ⟨rfl, hw2⟩; have hc2 := Tail.cells hw2; have s2 := hw2.size; (try simp at s2); (try have z2_0 : w.heap.size < w2.heap.size := (by omega)); (try have z2_1 : w1.heap.size < w2.heap.size := (by omega)); clear s2))
  go_ret
  exact ⟨rfl, by repeat (first | (with_reducible exact Below.refl _ _) | (with_reducible refine Below.setCell ?_ ?_ _) | (with_reducible refine Below.drew ?_) | (with_reducible refine Below.alloc ?_ ?_ _) | (with_reducible refine Below.trans ?_ (Below.mono hw2 ?_)) | (with_reducible refine Below.trans ?_ (Below.mono hw1 ?_)) | (with_reducible exact hw2.size) | (with_reducible exact hw1.size) | omega | (simp <;> omega) | (simp <;> (have s := hw2.size; omega)) | (simp <;> (have s := hw1.size; omega)) | (have s0 := hw2.size; (try simp at s0); have s1 := hw1.size; (try simp at s1); (try simp); omega))⟩
theorem pathValidates_walk (a b c : Int) (ao : Option Addr) (L : List Q) (cap : Nat) (po : Option Addr) (l : List Int) (n pc : Nat) (w : World) (_ : L.length ≤ maxLen) (hm : LiesO w ao L) (hpl : l.length = n * 3) (_ : n ≤ pc) (_ : pc ≤ maxLen) (hp : LiesOI w po l) (_ : po = none → pc = 0) : Calls Try.prog 3 #[.agg #[.int .i64 a, .int .i64 b, .int .i64 c, .slice ao L.length cap], .slice po n pc] w fun e w' => e = .returned (.bool true) ∧ Below w.heap.size w w' := by
  by_cases hn : 100 < L.length ∨ 100 < n
  · exact pathValidates_long a b c ao po _ n cap pc w hn
  · obtain ⟨ns, r0, hr⟩ := numsR_ex a b c L
    obtain ⟨r, hv⟩ := vkR_ex L.length n l r0
    by_cases h0 : r = 0
    · subst h0
      have hr0 : r0 = 0 := by
        rcases hv with ⟨h, h'⟩ | ⟨h, -⟩ | ⟨h, -⟩
        · exact h'.symm
        · exact h
        · exact h
      subst hr0
      exact pathValidates_ok a b c ao po L ns l cap pc n w (by omega) hm hp hpl hr hv
    · exact pathValidates_bad a b c r0 r ao po L ns l cap pc n w (by omega) (by omega) hm hp hpl hr hv h0

/-! ### The statement of the law PathValidates, out of its walk -/
set_option maxRecDepth 100000 in
theorem pathValidates_lifted (os : Os) (started : os.Started) (H : Type) (enc : TypeId × Value → H) :
    ReturnsInHanded {} Try.checked os 3 .any (Rows.pathValidatesSpec.pre6 enc Try.prog Try.f3 Rows.pathValidatesRow.domain false) (Rows.pathValidatesSpec.post enc Try.prog Try.f3 false true false false) := by
  refine returnsInHanded_of_change (C := Try.checked) own started (by kernel_rfl) Try.func3
    (ChangeSpec.witness6 (enc := enc) (C := Try.checked) false ⟨#[], #[.agg #[.int .i64 0, .int .i64 0, .int .i64 0, .slice none 0 0], .slice none 0 0], []⟩ 8 (by kernel_rfl) (by kernel_rfl) (by kernel_rfl) (by kernel_rfl)) ?_
  intro W base args ds gs before hval0 hW hcnd _
  have hval : ∀ (j : Nat) t v, Try.f3.params[j]? = some t → args[j]? = some v → Value.okWide Try.prog W .any base t v := hval0
  have hW' := hW
  obtain ⟨p, q, hA0, hV, rfl, hfz, hnd⟩ := hW
  have hA : DataW.TrodAll enc Try.prog W 0 (fun _ => true) true Try.f3.params.toList args.toList ds p := hA0
  rw [Try.params3] at hA hval
  obtain ⟨v0, vs0, d0, ds0, p0, q0, hargs, rfl, rfl, h0, r0⟩ := trodAll_cons hA
  obtain ⟨v1, vs1, d1, ds1, p1, q1, rfl, rfl, rfl, h1, r1⟩ := trodAll_cons r0
  obtain ⟨rfl, rfl, rfl⟩ := trodAll_nil r1
  obtain rfl : args = #[v0, v1] := by cases args; simp_all
  obtain ⟨rfl, rfl⟩ := trodVars_none hV
  have k0 := h0
  have lt0 : ∀ x ∈ p0, x.block < W.heap.size := by obtain ⟨m, hm⟩ := k0; exact DataW.trod_lt m _ _ _ hm
  obtain ⟨x0, y0, z0, ao0, L0, cap0, rfl, hl0, hm0⟩ := open_field (hval 0 25 v0 rfl rfl) h0
  have k1 := h1
  have lt1 : ∀ x ∈ p1, x.block < W.heap.size := by obtain ⟨m, hm⟩ := k1; exact DataW.trod_lt m _ _ _ hm
  obtain ⟨po1, l1, n1, pc1, rfl, hkl1, hkn1, hkc1, hkm1, hkz1⟩ := open_kicks (hval 1 26 v1 rfl rfl) h1
  clear hA0 hval0
  refine (pathValidates_walk x0 y0 z0 ao0 L0 cap0 po1 l1 n1 pc1 W hl0 hm0 hkl1 hkn1 hkc1 hkm1 hkz1).mono fun e W' ⟨he, bel⟩ => ?_
  subst he
  exact ⟨_, rfl, _, _, _, [], _, [], hW', trodAll_mk1 (shut_bool Try.underlying4 _), (trodAll_cons_mk (Below.trod laidOut (by kernel_rfl) (of_decide_eq_true (by kernel_rfl)) k0 bel lt0) (trodAll_cons_mk (Below.trod laidOut (by kernel_rfl) (of_decide_eq_true (by kernel_rfl)) k1 bel lt1) trodAll_mk0)), rfl, bel.frame _, fun h => by cases h⟩

theorem pathValidates_jf9 : (Rows.pathValidatesRow.inPlace == Try.prog.inPlace 3) = true := by kernel_rfl
theorem pathValidates_jf10 : (Rows.pathValidatesRow.unfollowed == Try.prog.unfollowed 3) = true := by kernel_rfl
theorem pathValidates_jf11 : (Rows.pathValidatesRow.recurses == Try.prog.recurses 3) = true := by kernel_rfl
theorem pathValidates_jf12 : (Rows.pathValidatesRow.named == Try.prog.varsNamed 3) = true := by kernel_rfl
theorem pathValidates_facts : joinedFacts Try.prog 3 Try.f3 Rows.pathValidatesSpec Rows.pathValidatesRow = true := by
  unfold joinedFacts
  exact (band (band (band (band (band (band (band (band (band (band (band (band (band (band (band (band (band (band (band (band (band (band (band (band (band (band (band (band (band (band (band (by kernel_rfl) jf1) jf2) (by kernel_rfl)) (by kernel_rfl)) (by kernel_rfl)) jf6) (by kernel_rfl)) jf8) pathValidates_jf9) pathValidates_jf10) pathValidates_jf11) pathValidates_jf12) (by kernel_rfl)) (by kernel_rfl)) (by kernel_rfl)) (by kernel_rfl)) (by kernel_rfl)) (by kernel_rfl)) (by kernel_rfl)) (by kernel_rfl)) (by kernel_rfl)) (by kernel_rfl)) (by kernel_rfl)) jf24) jf25) jf26) jf27) (by kernel_rfl)) (by kernel_rfl)) (by kernel_rfl)) (by kernel_rfl))

theorem pathValidates_over : Rows.pathValidatesRow.holds Try.pinned (OpenSpec.ofChange Rows.pathValidatesSpec) :=
  OpenClaim.holds_of_wide 3 Try.f3 rfl rfl rfl rfl rfl rfl rfl ⟨rfl, rfl, rfl, rfl, rfl⟩ rfl rfl rfl rfl rfl (by kernel_rfl) Try.func3 pathValidates_facts
    (of_decide_eq_true (by kernel_rfl)) (by unfold Func.isWrapper; first | (rw [if_pos (by decide +kernel)]; kernel_rfl) | (rw [if_neg (by decide +kernel)]; exact ⟨rfl, rfl⟩))
    (fun os started H enc _ => pathValidates_lifted os started H enc)

theorem pathValidates_holds : Rows.PathValidatesSaid := pathValidates_over
#print axioms pathValidates_holds

end Go.Proofs.Ytilbhcjnkmeecaa
