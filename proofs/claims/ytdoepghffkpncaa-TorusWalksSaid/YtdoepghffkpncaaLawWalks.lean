/- TorusWalks: through which sites a path leads, and whether it is closed, is what the document says, for all sizes and paths; it is so from any site.
Conditions: none. -/
import Derived.Test.YtdoepghffkpncaaClosC
namespace Go.Proofs.Ytdoepghffkpncaa
set_option linter.unusedVariables false
set_option linter.unusedSimpArgs false
set_option maxRecDepth 1000000
open Go.ChangeShapes Go.WideShapes Go.ChangeAt Go.RowKit
open Tm

set_option maxHeartbeats 800000 in
theorem refClosed_nil (a b c : Int) (ao : Option Addr) (cap : Nat) (w : World) (hz : Sz a b c) : Calls Try.prog 81 #[.agg #[.int .i64 a, .int .i64 b, .int .i64 c], .slice ao 0 cap] w fun e w' => e = .returned (.bool true) ∧ Below w.heap.size w w' := by
  obtain ⟨a1, a4, b1, b4, c1, c4, -⟩ := hz
  have a0 : (a == 0) = false := by simp; omega
  have b0 : (b == 0) = false := by simp; omega
  have c0 : (c == 0) = false := by simp; omega
  go_enter Try.func81, Try.ntmps81
  go_wp2
  refine wp_loop_rounds 1 ?_
  rw [rounds_succ]
  go_wp2
  go_ret
  exact ⟨rfl, by repeat (first | (with_reducible exact Below.refl _ _) | (with_reducible refine Below.setCell ?_ ?_ _) | (with_reducible refine Below.drew ?_) | (with_reducible refine Below.alloc ?_ ?_ _) | omega | (simp <;> omega))⟩
theorem refClosed_any (a b c : Int) (q : Bool) (ao : Option Addr) (cap : Nat) (l : List Int) (w : World) (hz : Sz a b c) (h : LiesOI w ao l) (hs : ∀ t ∈ l, IsStep t) (h8 : l.length ≤ 8) (hq : (Clo a b c l ∧ q = true) ∨ (¬ Clo a b c l ∧ q = false)) : Calls Try.prog 81 #[.agg #[.int .i64 a, .int .i64 b, .int .i64 c], .slice ao l.length cap] w fun e w' => e = .returned (.bool q) ∧ Below w.heap.size w w' := by
  rcases h with rfl | ⟨ba, off, rfl, h⟩
  · have hc : Clo a b c [] := ⟨⟨0, by simp [sm]⟩, ⟨0, by simp [sm]⟩, ⟨0, by simp [sm]⟩⟩
    obtain rfl : q = true := by
      rcases hq with ⟨_, h⟩ | ⟨h, _⟩
      · exact h
      · exact absurd hc h
    exact refClosed_nil a b c ao cap w hz
  · exact refClosed_some a b c q ba off cap l w hz h hs h8 hq

set_option maxHeartbeats 800000 in
theorem refIsClosed_bad (a b c s r : Int) (ao : Option Addr) (cap : Nat) (l : List Int) (w : World) (h : LiesOI w ao l) (hr : wkR a b c s l r) (h0 : r ≠ 0) (hlen : l.length ≤ 1000000) : Calls Try.prog 38 #[.agg #[.int .i64 a, .int .i64 b, .int .i64 c], .int .i64 s, .slice ao l.length cap] w fun e w' => e = .returned (.tuple #[.bool false, .int .i64 r]) ∧ Below w.heap.size w w' := by
  have c1 : ∀ W : World, LiesOI W ao l → Calls Try.prog 80 #[.agg #[.int .i64 a, .int .i64 b, .int .i64 c], .int .i64 s, .slice ao l.length cap] W fun e w' => e = .returned (.int .i64 r) ∧ Below W.heap.size W w' := fun W h => refWalked_any a b c s r ao cap l W h hr hlen
  have H := Lib.hid h
  have h0' : (r != 0) = true := by simpa using h0
  clear h hr h0
  go_enter Try.func38, Try.ntmps38
  go_wp2_with ((with_reducible refine (c1 _ (H.out.later (by repeat (first | (with_reducible exact Below.refl _ _) | (with_reducible refine Below.setCell ?_ ?_ _) | (with_reducible refine Below.drew ?_) | (with_reducible refine Below.alloc ?_ ?_ _) | omega | (simp <;> omega))))).mono ?_); rintro e w1 ⟨rfl, hw1⟩)
  go_ret2
  exact ⟨rfl, by repeat (first | (with_reducible exact Below.refl _ _) | (with_reducible refine Below.setCell ?_ ?_ _) | (with_reducible refine Below.drew ?_) | (with_reducible refine Below.alloc ?_ ?_ _) | (with_reducible refine Below.trans ?_ (Below.mono hw1 ?_)) | (with_reducible exact hw1.size) | omega | (simp <;> omega) | (simp <;> (have s := hw1.size; omega)) | (have s0 := hw1.size; (try simp at s0); (try simp); omega))⟩
set_option maxHeartbeats 800000 in
theorem refIsClosed_ok (a b c s : Int) (q : Bool) (ao : Option Addr) (cap : Nat) (l : List Int) (w : World) (hz : Sz a b c) (h0 : 0 ≤ s) (h1 : s < a * b * c) (h : LiesOI w ao l) (hs : ∀ t ∈ l, IsStep t) (h8 : l.length ≤ 8) (hq : (Clo a b c l ∧ q = true) ∨ (¬ Clo a b c l ∧ q = false)) : Calls Try.prog 38 #[.agg #[.int .i64 a, .int .i64 b, .int .i64 c], .int .i64 s, .slice ao l.length cap] w fun e w' => e = .returned (.tuple #[.bool q, .int .i64 0]) ∧ Below w.heap.size w w' := by
  have c1 : ∀ W : World, LiesOI W ao l → Calls Try.prog 80 #[.agg #[.int .i64 a, .int .i64 b, .int .i64 c], .int .i64 s, .slice ao l.length cap] W fun e w' => e = .returned (.int .i64 0) ∧ Below W.heap.size W w' := fun W h => refWalked_any a b c s 0 ao cap l W h (.inr ⟨hz, h0, h1, .inr (.inr ⟨h8, hs, rfl⟩)⟩) (by omega)
  have c2 : ∀ W : World, LiesOI W ao l → Calls Try.prog 81 #[.agg #[.int .i64 a, .int .i64 b, .int .i64 c], .slice ao l.length cap] W fun e w' => e = .returned (.bool q) ∧ Below W.heap.size W w' := fun W h => refClosed_any a b c q ao cap l W hz h hs h8 hq
  have H := Lib.hid h
  clear h hz h0 h1 hs hq
  go_enter Try.func38, Try.ntmps38
  go_wp2_with (first | ((with_reducible refine (c1 _ (H.out.later (by repeat (first | (with_reducible exact Below.refl _ _) | (with_reducible refine Below.setCell ?_ ?_ _) | (with_reducible refine Below.drew ?_) | (with_reducible refine Below.alloc ?_ ?_ _) | omega | (simp <;> omega))))).mono ?_); rintro e w1 ⟨rfl, hw1⟩; have hc1 := Tail.cells hw1; have z0 := Nat.lt_of_lt_of_le (n := w.heap.size) (by simp) hw1.size) | ((with_reducible refine (c2 _ (H.out.later (by repeat (first | (with_reducible exact Below.refl _ _) | (with_reducible refine Below.setCell ?_ ?_ _) | (with_reducible refine Below.drew ?_) | (with_reducible refine Below.alloc ?_ ?_ _) | (with_reducible refine Below.trans ?_ (Below.mono hw1 ?_)) | (with_reducible exact hw1.size) | omega | (simp <;> omega) | (simp <;> (have s := hw1.size; omega)) | (have s0 := hw1.size; (try simp at s0); (try simp); omega))))).mono ?_); rintro e w2 ⟨rfl, hw2⟩))
  go_ret2
  exact ⟨rfl, by repeat (first | (with_reducible exact Below.refl _ _) | (with_reducible refine Below.setCell ?_ ?_ _) | (with_reducible refine Below.drew ?_) | (with_reducible refine Below.alloc ?_ ?_ _) | (with_reducible refine Below.trans ?_ (Below.mono hw2 ?_)) | (with_reducible refine Below.trans ?_ (Below.mono hw1 ?_)) | (with_reducible exact hw2.size) | (with_reducible exact hw1.size) | omega | (simp <;> omega) | (simp <;> (have s := hw2.size; omega)) | (simp <;> (have s := hw1.size; omega)) | (have s0 := hw2.size; (try simp at s0); have s1 := hw1.size; (try simp at s1); (try simp); omega))⟩

theorem sameInts_true2 (a1 a2 : Option Addr) (c1 c2 : Nat) (l : List Int) (w : World) (h1 : LiesOI w a1 l) (h2 : LiesOI w a2 l) (hlen : l.length ≤ 1000000) :
    Calls Try.prog 24 #[.slice a1 l.length c1, .slice a2 l.length c2] w fun e w' => e = .returned (.bool true) ∧ Below w.heap.size w w' := by
  have := sameInts_any a1 a2 c1 c2 l l w h1 h2 hlen
  rwa [decide_eq_true rfl] at this

theorem other_any (a b c o : Int) (ao : Option Addr) (cap : Nat) (l : List Int) (hlen : l.length ≤ 1000000) : ∃ (q : Bool) (r : Int), (∀ W : World, LiesOI W ao l → Calls Try.prog 37 #[.agg #[.int .i64 a, .int .i64 b, .int .i64 c], .int .i64 o, .slice ao l.length cap] W fun e w' => e = .returned (.tuple #[.bool q, .int .i64 r]) ∧ Below W.heap.size W w') ∧ (r = 0 → ((Clo a b c l ∧ q = true) ∨ (¬ Clo a b c l ∧ q = false))) := by
  obtain ⟨r, hr⟩ := wkR_ex a b c o l
  by_cases h0 : r = 0
  · subst h0
    rcases hr with ⟨_, h⟩ | ⟨hz, o0, o1, hp⟩
    · exact absurd rfl h
    · rcases hp with ⟨_, h⟩ | ⟨_, _, h⟩ | ⟨h8, hs, _⟩
      · exact absurd h (by decide)
      · exact absurd h (by decide)
      · by_cases hc : Clo a b c l
        · exact ⟨true, 0, fun W h => isClosed_ok a b c o true ao cap l W hz o0 o1 h hs h8 (.inl ⟨(closed_iff hz o0 o1 l).2 hc, rfl⟩), fun _ => .inl ⟨hc, rfl⟩⟩
        · exact ⟨false, 0, fun W h => isClosed_ok a b c o false ao cap l W hz o0 o1 h hs h8 (.inr ⟨fun h => hc ((closed_iff hz o0 o1 l).1 h), rfl⟩), fun _ => .inr ⟨hc, rfl⟩⟩
  · exact ⟨false, r, fun W h => isClosed_bad a b c o r ao cap l W h hr h0 hlen, fun h => absurd h h0⟩

set_option maxHeartbeats 3200000 in
theorem torusWalks_bad (a b c s : Int) (ao : Option Addr) (l : List Int) (cap : Nat) (o : Int) (w : World) (hl : l.length ≤ 100) (hm : LiesOI w ao l) (r : Int) (hr : wkR a b c s l r) (h0 : r ≠ 0) : Calls Try.prog 6 #[.agg #[.int .i64 a, .int .i64 b, .int .i64 c], .agg #[.int .i64 s, .slice ao l.length cap], .int .i64 o] w fun e w' => e = .returned (.bool true) ∧ Below w.heap.size w w' := by
  have kn := known2_any
  have hle : ¬ (100 : Int) < (l.length : Int) := by omega
  have k1 := fun (W : World) (h : LiesOI W ao l) => walkO_bad a b c s r ao cap l W h hr h0 (by omega)
  have k2 := fun (W : World) (h : LiesOI W ao l) => refWalk_bad a b c s r ao cap l W h hr h0 (by omega)
  have k3 := fun (W : World) (h : LiesOI W ao l) => isClosed_bad a b c s r ao cap l W h hr h0 (by omega)
  have k4 := fun (W : World) (h : LiesOI W ao l) => refIsClosed_bad a b c s r ao cap l W h hr h0 (by omega)
  have sn := fun (W : World) => sameInts_nil none none 0 0 W
  obtain ⟨q, r2, k5, -⟩ := other_any a b c o ao cap l (by omega)
  have h1 : (r == 0) = false := by simpa using h0
  have h2 : (r != 0) = true := by simpa using h0
  have HO := Lib.hid hm
  clear hm hr h0
  go_enter Try.func6, Try.ntmps6
  go_wp2_with (first | ((with_reducible refine (k1 _ (HO.out.later (by repeat (first | (with_reducible exact Below.refl _ _) | (with_reducible refine Below.setCell ?_ ?_ _) | (with_reducible refine Below.drew ?_) | (with_reducible refine Below.alloc ?_ ?_ _) | omega | (simp <;> omega))))).mono ?_); clear k1; rintro e w1 ⟨rfl, hw1⟩; have hc1 := Tail.cells hw1; have zw10 := Nat.lt_of_lt_of_le (n := w.heap.size) (by simp <;> omega) hw1.size; have zw11 := Nat.lt_of_lt_of_le (n := w.heap.size + 1) (by simp <;> omega) hw1.size) | ((with_reducible refine (k2 _ (HO.out.later (by repeat (first | (with_reducible exact Below.refl _ _) | (with_reducible refine Below.setCell ?_ ?_ _) | (with_reducible refine Below.drew ?_) | (with_reducible refine Below.alloc ?_ ?_ _) | (with_reducible refine Below.trans ?_ (Below.mono hw1 ?_)) | (with_reducible exact hw1.size) | omega | (simp <;> omega) | (simp <;> (have s := hw1.size; omega)) | (have s0 := hw1.size; (try simp at s0); (try simp); omega))))).mono ?_); clear k2; rintro e w2 ⟨rfl, hw2⟩; have hc2 := Tail.cells hw2; have z20 := Nat.lt_of_lt_of_le zw10 hw2.size; have z21 := Nat.lt_of_lt_of_le zw11 hw2.size) | ((with_reducible refine (k3 _ (HO.out.later (by repeat (first | (with_reducible exact Below.refl _ _) | (with_reducible refine Below.setCell ?_ ?_ _) | (with_reducible refine Below.drew ?_) | (with_reducible refine Below.alloc ?_ ?_ _) | (with_reducible refine Below.trans ?_ (Below.mono hw2 ?_)) | (with_reducible refine Below.trans ?_ (Below.mono hw1 ?_)) | (with_reducible exact hw2.size) | (with_reducible exact hw1.size) | omega | (simp <;> omega) | (simp <;> (have s := hw2.size; omega)) | (simp <;> (have s := hw1.size; omega)) | (have s0 := hw2.size; (try simp at s0); have s1 := hw1.size; (try simp at s1); (try simp); omega))))).mono ?_); clear k3; rintro e w3 ⟨rfl, hw3⟩; have hc3 := Tail.cells hw3; have z30 := Nat.lt_of_lt_of_le z20 hw3.size; have z31 := Nat.lt_of_lt_of_le z21 hw3.size) | ((with_reducible refine (k4 _ (HO.out.later (by repeat (first | (with_reducible exact Below.refl _ _) | (with_reducible refine Below.setCell ?_ ?_ _) | (with_reducible refine Below.drew ?_) | (with_reducible refine Below.alloc ?_ ?_ _) | (with_reducible refine Below.trans ?_ (Below.mono hw3 ?_)) | (with_reducible refine Below.trans ?_ (Below.mono hw2 ?_)) | (with_reducible refine Below.trans ?_ (Below.mono hw1 ?_)) | (with_reducible exact hw3.size) | (with_reducible exact hw2.size) | (with_reducible exact hw1.size) | omega | (simp <;> omega) | (simp <;> (have s := hw3.size; omega)) | (simp <;> (have s := hw2.size; omega)) | (simp <;> (have s := hw1.size; omega)) | (have s0 := hw3.size; (try simp at s0); have s1 := hw2.size; (try simp at s1); have s2 := hw1.size; (try simp at s2); (try simp); omega))))).mono ?_); clear k4; rintro e w4 ⟨rfl, hw4⟩; have hc4 := Tail.cells hw4; have z40 := Nat.lt_of_lt_of_le z30 hw4.size; have z41 := Nat.lt_of_lt_of_le z31 hw4.size) | ((with_reducible refine (sn _).mono ?_); rintro e w5 ⟨rfl, hw5⟩; have hc5 := Tail.cells hw5; have z50 := Nat.lt_of_lt_of_le z40 hw5.size; have z51 := Nat.lt_of_lt_of_le z41 hw5.size) | ((with_reducible refine (k5 _ (HO.out.later (by repeat (first | (with_reducible exact Below.refl _ _) | (with_reducible refine Below.setCell ?_ ?_ _) | (with_reducible refine Below.drew ?_) | (with_reducible refine Below.alloc ?_ ?_ _) | (with_reducible refine Below.trans ?_ (Below.mono hw5 ?_)) | (with_reducible refine Below.trans ?_ (Below.mono hw4 ?_)) | (with_reducible refine Below.trans ?_ (Below.mono hw3 ?_)) | (with_reducible refine Below.trans ?_ (Below.mono hw2 ?_)) | (with_reducible refine Below.trans ?_ (Below.mono hw1 ?_)) | (with_reducible exact hw5.size) | (with_reducible exact hw4.size) | (with_reducible exact hw3.size) | (with_reducible exact hw2.size) | (with_reducible exact hw1.size) | omega | (simp <;> omega) | (simp <;> (have s := hw5.size; omega)) | (simp <;> (have s := hw4.size; omega)) | (simp <;> (have s := hw3.size; omega)) | (simp <;> (have s := hw2.size; omega)) | (simp <;> (have s := hw1.size; omega)) | (have s0 := hw5.size; (try simp at s0); have s1 := hw4.size; (try simp at s1); have s2 := hw3.size; (try simp at s2); have s3 := hw2.size; (try simp at s3); have s4 := hw1.size; (try simp at s4); (try simp); omega))))).mono ?_); clear k5; rintro e w6 ⟨rfl, hw6⟩) | ((with_reducible refine (kn _).mono ?_); rintro e w7 ⟨rfl, hw7⟩))
  go_ret
  exact ⟨rfl, by repeat (first | (with_reducible exact Below.refl _ _) | (with_reducible refine Below.setCell ?_ ?_ _) | (with_reducible refine Below.drew ?_) | (with_reducible refine Below.alloc ?_ ?_ _) | (with_reducible refine Below.trans ?_ (Below.mono hw7 ?_)) | (with_reducible refine Below.trans ?_ (Below.mono hw6 ?_)) | (with_reducible refine Below.trans ?_ (Below.mono hw5 ?_)) | (with_reducible refine Below.trans ?_ (Below.mono hw4 ?_)) | (with_reducible refine Below.trans ?_ (Below.mono hw3 ?_)) | (with_reducible refine Below.trans ?_ (Below.mono hw2 ?_)) | (with_reducible refine Below.trans ?_ (Below.mono hw1 ?_)) | (with_reducible exact hw7.size) | (with_reducible exact hw6.size) | (with_reducible exact hw5.size) | (with_reducible exact hw4.size) | (with_reducible exact hw3.size) | (with_reducible exact hw2.size) | (with_reducible exact hw1.size) | omega | (simp <;> omega) | (simp <;> (have s := hw7.size; omega)) | (simp <;> (have s := hw6.size; omega)) | (simp <;> (have s := hw5.size; omega)) | (simp <;> (have s := hw4.size; omega)) | (simp <;> (have s := hw3.size; omega)) | (simp <;> (have s := hw2.size; omega)) | (simp <;> (have s := hw1.size; omega)) | (have s0 := hw7.size; (try simp at s0); have s1 := hw6.size; (try simp at s1); have s2 := hw5.size; (try simp at s2); have s3 := hw4.size; (try simp at s3); have s4 := hw3.size; (try simp at s4); have s5 := hw2.size; (try simp at s5); have s6 := hw1.size; (try simp at s6); (try simp); omega))⟩

set_option maxHeartbeats 3200000 in
theorem torusWalks_ok (a b c s : Int) (ao : Option Addr) (l : List Int) (cap : Nat) (o : Int) (w : World) (hm : LiesOI w ao l) (hz : Sz a b c) (s0 : 0 ≤ s) (s1 : s < a * b * c) (h8 : l.length ≤ 8) (hs : ∀ t ∈ l, IsStep t) (q : Bool) (hq : (Clo a b c l ∧ q = true) ∨ (¬ Clo a b c l ∧ q = false)) (q2 : Bool) (r2 : Int) (k5 : ∀ W : World, LiesOI W ao l → Calls Try.prog 37 #[.agg #[.int .i64 a, .int .i64 b, .int .i64 c], .int .i64 o, .slice ao l.length cap] W fun e w' => e = .returned (.tuple #[.bool q2, .int .i64 r2]) ∧ Below W.heap.size W w') (h2 : (r2 = 0 ∧ q2 = q) ∨ ((r2 == 0) = false ∧ (r2 != 0) = true)) : Calls Try.prog 6 #[.agg #[.int .i64 a, .int .i64 b, .int .i64 c], .agg #[.int .i64 s, .slice ao l.length cap], .int .i64 o] w fun e w' => e = .returned (.bool true) ∧ Below w.heap.size w w' := by
  have kn := known2_any
  have hle : ¬ (100 : Int) < (l.length : Int) := by omega
  have hwl := wl_len a b c s l
  have k1 := fun (W : World) (h : LiesOI W ao l) => walkO_ok a b c s ao cap l W hz s0 s1 h hs h8
  have k2 := fun (W : World) (h : LiesOI W ao l) => refWalk_ok a b c s ao cap l W hz s0 s1 h hs h8
  have k3 := fun (W : World) (h : LiesOI W ao l) => isClosed_ok a b c s q ao cap l W hz s0 s1 h hs h8 (by
    rcases hq with ⟨h, rfl⟩ | ⟨h, rfl⟩
    · exact .inl ⟨(closed_iff hz s0 s1 l).2 h, rfl⟩
    · exact .inr ⟨fun h' => h ((closed_iff hz s0 s1 l).1 h'), rfl⟩)
  have k4 := fun (W : World) (h : LiesOI W ao l) => refIsClosed_ok a b c s q ao cap l W hz s0 s1 h hs h8 hq
  have sn := fun (a1 a2 : Option Addr) (c1 c2 : Nat) (W : World) (h1 : LiesOI W a1 (wl a b c s l)) (h2 : LiesOI W a2 (wl a b c s l)) => sameInts_true2 a1 a2 c1 c2 (wl a b c s l) W h1 h2 (by omega)
  have HO := Lib.hid hm
  clear hm hs hq hz s0 s1 hwl
  generalize wl a b c s l = rl at *
  rcases h2 with ⟨rfl, rfl⟩ | ⟨h1, h2⟩
  all_goals
    go_enter Try.func6, Try.ntmps6
    go_wp2_with (first | ((with_reducible refine (k1 _ (HO.out.later (by repeat (first | (with_reducible exact Below.refl _ _) | (with_reducible refine Below.setCell ?_ ?_ _) | (with_reducible refine Below.drew ?_) | (with_reducible refine Below.alloc ?_ ?_ _) | omega | (simp <;> omega))))).mono ?_); clear k1; rintro e w1 ⟨aA, kA, rfl, hA, hw1⟩; have HA := Lib.hid hA; clear hA; have hc1 := Tail.cells hw1; have zw10 := Nat.lt_of_lt_of_le (n := w.heap.size) (by simp <;> omega) hw1.size; have zw11 := Nat.lt_of_lt_of_le (n := w.heap.size + 1) (by simp <;> omega) hw1.size) | ((with_reducible refine (k2 _ (HO.out.later (by repeat (first | (with_reducible exact Below.refl _ _) | (with_reducible refine Below.setCell ?_ ?_ _) | (with_reducible refine Below.drew ?_) | (with_reducible refine Below.alloc ?_ ?_ _) | (with_reducible refine Below.trans ?_ (Below.mono hw1 ?_)) | (with_reducible exact hw1.size) | omega | (simp <;> omega) | (simp <;> (have s := hw1.size; omega)) | (have s0 := hw1.size; (try simp at s0); (try simp); omega))))).mono ?_); clear k2; rintro e w2 ⟨aB, kB, rfl, hB, hw2⟩; have HB := Lib.hid hB; clear hB; have hc2 := Tail.cells hw2; have z20 := Nat.lt_of_lt_of_le zw10 hw2.size; have z21 := Nat.lt_of_lt_of_le zw11 hw2.size) | ((with_reducible refine (k3 _ (HO.out.later (by repeat (first | (with_reducible exact Below.refl _ _) | (with_reducible refine Below.setCell ?_ ?_ _) | (with_reducible refine Below.drew ?_) | (with_reducible refine Below.alloc ?_ ?_ _) | (with_reducible refine Below.trans ?_ (Below.mono hw2 ?_)) | (with_reducible refine Below.trans ?_ (Below.mono hw1 ?_)) | (with_reducible exact hw2.size) | (with_reducible exact hw1.size) | omega | (simp <;> omega) | (simp <;> (have s := hw2.size; omega)) | (simp <;> (have s := hw1.size; omega)) | (have s0 := hw2.size; (try simp at s0); have s1 := hw1.size; (try simp at s1); (try simp); omega))))).mono ?_); clear k3; rintro e w3 ⟨rfl, hw3⟩; have hc3 := Tail.cells hw3; have z30 := Nat.lt_of_lt_of_le z20 hw3.size; have z31 := Nat.lt_of_lt_of_le z21 hw3.size) | ((with_reducible refine (k4 _ (HO.out.later (by repeat (first | (with_reducible exact Below.refl _ _) | (with_reducible refine Below.setCell ?_ ?_ _) | (with_reducible refine Below.drew ?_) | (with_reducible refine Below.alloc ?_ ?_ _) | (with_reducible refine Below.trans ?_ (Below.mono hw3 ?_)) | (with_reducible refine Below.trans ?_ (Below.mono hw2 ?_)) | (with_reducible refine Below.trans ?_ (Below.mono hw1 ?_)) | (with_reducible exact hw3.size) | (with_reducible exact hw2.size) | (with_reducible exact hw1.size) | omega | (simp <;> omega) | (simp <;> (have s := hw3.size; omega)) | (simp <;> (have s := hw2.size; omega)) | (simp <;> (have s := hw1.size; omega)) | (have s0 := hw3.size; (try simp at s0); have s1 := hw2.size; (try simp at s1); have s2 := hw1.size; (try simp at s2); (try simp); omega))))).mono ?_); clear k4; rintro e w4 ⟨rfl, hw4⟩; have hc4 := Tail.cells hw4; have z40 := Nat.lt_of_lt_of_le z30 hw4.size; have z41 := Nat.lt_of_lt_of_le z31 hw4.size) | ((with_reducible refine (sn _ _ _ _ _ (HA.out.later (by repeat (first | (with_reducible exact Below.refl _ _) | (with_reducible refine Below.setCell ?_ ?_ _) | (with_reducible refine Below.drew ?_) | (with_reducible refine Below.alloc ?_ ?_ _) | (with_reducible refine Below.trans ?_ (Below.mono hw4 ?_)) | (with_reducible refine Below.trans ?_ (Below.mono hw3 ?_)) | (with_reducible refine Below.trans ?_ (Below.mono hw2 ?_)) | (with_reducible exact hw4.size) | (with_reducible exact hw3.size) | (with_reducible exact hw2.size) | omega | (simp <;> omega) | (simp <;> (have s := hw4.size; omega)) | (simp <;> (have s := hw3.size; omega)) | (simp <;> (have s := hw2.size; omega)) | (have s0 := hw4.size; (try simp at s0); have s1 := hw3.size; (try simp at s1); have s2 := hw2.size; (try simp at s2); (try simp); omega)))) (HB.out.later (by repeat (first | (with_reducible exact Below.refl _ _) | (with_reducible refine Below.setCell ?_ ?_ _) | (with_reducible refine Below.drew ?_) | (with_reducible refine Below.alloc ?_ ?_ _) | (with_reducible refine Below.trans ?_ (Below.mono hw4 ?_)) | (with_reducible refine Below.trans ?_ (Below.mono hw3 ?_)) | (with_reducible exact hw4.size) | (with_reducible exact hw3.size) | omega | (simp <;> omega) | (simp <;> (have s := hw4.size; omega)) | (simp <;> (have s := hw3.size; omega)) | (have s0 := hw4.size; (try simp at s0); have s1 := hw3.size; (try simp at s1); (try simp); omega))))).mono ?_); rintro e w5 ⟨rfl, hw5⟩; have hc5 := Tail.cells hw5; have z50 := Nat.lt_of_lt_of_le z40 hw5.size; have z51 := Nat.lt_of_lt_of_le z41 hw5.size) | ((with_reducible refine (k5 _ (HO.out.later (by repeat (first | (with_reducible exact Below.refl _ _) | (with_reducible refine Below.setCell ?_ ?_ _) | (with_reducible refine Below.drew ?_) | (with_reducible refine Below.alloc ?_ ?_ _) | (with_reducible refine Below.trans ?_ (Below.mono hw5 ?_)) | (with_reducible refine Below.trans ?_ (Below.mono hw4 ?_)) | (with_reducible refine Below.trans ?_ (Below.mono hw3 ?_)) | (with_reducible refine Below.trans ?_ (Below.mono hw2 ?_)) | (with_reducible refine Below.trans ?_ (Below.mono hw1 ?_)) | (with_reducible exact hw5.size) | (with_reducible exact hw4.size) | (with_reducible exact hw3.size) | (with_reducible exact hw2.size) | (with_reducible exact hw1.size) | omega | (simp <;> omega) | (simp <;> (have s := hw5.size; omega)) | (simp <;> (have s := hw4.size; omega)) | (simp <;> (have s := hw3.size; omega)) | (simp <;> (have s := hw2.size; omega)) | (simp <;> (have s := hw1.size; omega)) | (have s0 := hw5.size; (try simp at s0); have s1 := hw4.size; (try simp at s1); have s2 := hw3.size; (try simp at s2); have s3 := hw2.size; (try simp at s3); have s4 := hw1.size; (try simp at s4); (try simp); omega))))).mono ?_); clear k5; rintro e w6 ⟨rfl, hw6⟩) | ((with_reducible refine (kn _).mono ?_); rintro e w7 ⟨rfl, hw7⟩))
    go_ret
    exact ⟨rfl, by repeat (first | (with_reducible exact Below.refl _ _) | (with_reducible refine Below.setCell ?_ ?_ _) | (with_reducible refine Below.drew ?_) | (with_reducible refine Below.alloc ?_ ?_ _) | (with_reducible refine Below.trans ?_ (Below.mono hw7 ?_)) | (with_reducible refine Below.trans ?_ (Below.mono hw6 ?_)) | (with_reducible refine Below.trans ?_ (Below.mono hw5 ?_)) | (with_reducible refine Below.trans ?_ (Below.mono hw4 ?_)) | (with_reducible refine Below.trans ?_ (Below.mono hw3 ?_)) | (with_reducible refine Below.trans ?_ (Below.mono hw2 ?_)) | (with_reducible refine Below.trans ?_ (Below.mono hw1 ?_)) | (with_reducible exact hw7.size) | (with_reducible exact hw6.size) | (with_reducible exact hw5.size) | (with_reducible exact hw4.size) | (with_reducible exact hw3.size) | (with_reducible exact hw2.size) | (with_reducible exact hw1.size) | omega | (simp <;> omega) | (simp <;> (have s := hw7.size; omega)) | (simp <;> (have s := hw6.size; omega)) | (simp <;> (have s := hw5.size; omega)) | (simp <;> (have s := hw4.size; omega)) | (simp <;> (have s := hw3.size; omega)) | (simp <;> (have s := hw2.size; omega)) | (simp <;> (have s := hw1.size; omega)) | (have s0 := hw7.size; (try simp at s0); have s1 := hw6.size; (try simp at s1); have s2 := hw5.size; (try simp at s2); have s3 := hw4.size; (try simp at s3); have s4 := hw3.size; (try simp at s4); have s5 := hw2.size; (try simp at s5); have s6 := hw1.size; (try simp at s6); (try simp); omega))⟩

set_option maxHeartbeats 800000 in
theorem torusWalks_long (a b c s : Int) (ao : Option Addr) (n cap : Nat) (o : Int) (w : World) (hn : 100 < n) : Calls Try.prog 6 #[.agg #[.int .i64 a, .int .i64 b, .int .i64 c], .agg #[.int .i64 s, .slice ao n cap], .int .i64 o] w fun e w' => e = .returned (.bool true) ∧ Below w.heap.size w w' := by
  have kn := known2_any
  have hle : (100 : Int) < (n : Int) := by omega
  go_enter Try.func6, Try.ntmps6
  go_wp2_with ((with_reducible refine (kn _).mono ?_); rintro e w1 ⟨rfl, hw1⟩)
  go_ret
  exact ⟨rfl, by repeat (first | (with_reducible exact Below.refl _ _) | (with_reducible refine Below.setCell ?_ ?_ _) | (with_reducible refine Below.drew ?_) | (with_reducible refine Below.alloc ?_ ?_ _) | (with_reducible refine Below.trans ?_ (Below.mono hw1 ?_)) | (with_reducible exact hw1.size) | omega | (simp <;> omega) | (simp <;> (have s := hw1.size; omega)) | (have s0 := hw1.size; (try simp at s0); (try simp); omega))⟩

theorem torusWalks_walk (a b c s : Int) (ao : Option Addr) (l : List Int) (cap : Nat) (o : Int) (w : World) (hl : l.length ≤ cap) (hc : cap ≤ maxLen) (hm : LiesOI w ao l) : Calls Try.prog 6 #[.agg #[.int .i64 a, .int .i64 b, .int .i64 c], .agg #[.int .i64 s, .slice ao l.length cap], .int .i64 o] w fun e w' => e = .returned (.bool true) ∧ Below w.heap.size w w' := by
  by_cases hn : 100 < l.length
  · exact torusWalks_long a b c s ao _ cap o w hn
  · obtain ⟨r, hr⟩ := wkR_ex a b c s l
    by_cases h0 : r = 0
    · subst h0
      rcases hr with ⟨_, h⟩ | ⟨hz, s0, s1, hp⟩
      · exact absurd rfl h
      · rcases hp with ⟨_, h⟩ | ⟨_, _, h⟩ | ⟨h8, hs, _⟩
        · exact absurd h (by decide)
        · exact absurd h (by decide)
        · obtain ⟨q2, r2, k5, h2⟩ := other_any a b c o ao cap l (by omega)
          obtain ⟨q, hq⟩ : ∃ q : Bool, (Clo a b c l ∧ q = true) ∨ (¬ Clo a b c l ∧ q = false) := by
            by_cases h : Clo a b c l
            · exact ⟨true, .inl ⟨h, rfl⟩⟩
            · exact ⟨false, .inr ⟨h, rfl⟩⟩
          refine torusWalks_ok a b c s ao l cap o w hm hz s0 s1 h8 hs q hq q2 r2 k5 ?_
          by_cases hr2 : r2 = 0
          · refine .inl ⟨hr2, ?_⟩
            rcases h2 hr2 with ⟨x, rfl⟩ | ⟨x, rfl⟩ <;> rcases hq with ⟨y, rfl⟩ | ⟨y, rfl⟩
            · rfl
            · exact absurd x y
            · exact absurd y x
            · rfl
          · exact .inr ⟨by simpa using hr2, by simpa using hr2⟩
    · exact torusWalks_bad a b c s ao l cap o w (by omega) hm r hr h0

section
open Go.ChangeShapes Go.WideShapes Go.ChangeAt Go.RowKit Go.Joins Go.Deep
variable {H : Type} {enc : TypeId × Value → H} {w : World} {base : Nat} {spare : Nat → Bool} {held : Bool}
theorem cellsP : Try.prog.cellsOf 47 = 2 := by kernel_rfl
theorem cellsSl : Try.prog.cellsOf 31 = 1 := by kernel_rfl
theorem one_ofP {fs : Array Field} (_ : Try.prog.underlying 47 = some (.struct fs)) (h : oneCellFields Try.prog fs = true) : oneCellFields Try.prog fs = true := h
theorem open_path {r : Reach} {b0 : Nat} {v : Value} {d : DataW H} {p : List MemPlace} (hv : Value.okWide Try.prog w r b0 47 v) (h : DataW.Trod enc Try.prog w base spare held 47 v d p) : ∃ (s : Int) (ao : Option Addr) (l : List Int) (cap : Nat), v = .agg #[.int .i64 s, .slice ao l.length cap] ∧ l.length ≤ cap ∧ cap ≤ maxLen ∧ LiesOI w ao l := by
  obtain ⟨cs, rfl, hsz⟩ := okWide_struct Try.underlying47 hv
  obtain ⟨ls⟩ := cs
  match ls, hsz.trans cellsP with
  | [c0, c1], _ =>
    obtain ⟨fuel, hf⟩ := h
    obtain ⟨xs, n, _, _, _, hlen, hg⟩ := DataW.trod_struct Try.underlying47 hf
    have hone := one_ofP (fs := _) Try.underlying47 (by kernel_rfl)
    match xs, hlen with
    | [y0, y1], _ =>
      obtain ⟨o0, k0⟩ := hone_of hone 0 _ rfl
      obtain ⟨o1, k1⟩ := hone_of hone 1 _ rfl
      obtain ⟨s, e0, _, _⟩ := DataW.trod_int Try.underlying3 (show DataW.trod enc Try.prog w base spare held n 3 [c0] = some y0 by simpa [Value.cells, o0, cells3] using hg 0 _ rfl)
      obtain ⟨ao, l, cap, e1, hl, hc, hm⟩ := trod_ints (show DataW.trod enc Try.prog w base spare held n 31 [c1] = some y1 by simpa [Value.cells, o1, cellsSl] using hg 1 _ rfl)
      simp at e0 e1
      subst e0 e1
      exact ⟨s, ao, l, cap, rfl, hl, hc, hm⟩
end

/-! ### The statement of the law TorusWalks, out of its walk -/
set_option maxRecDepth 100000 in
theorem torusWalks_lifted (os : Os) (started : os.Started) (H : Type) (enc : TypeId × Value → H) :
    ReturnsInHanded {} Try.checked os 6 .any (Rows.torusWalksSpec.pre6 enc Try.prog Try.f6 Rows.torusWalksRow.domain false) (Rows.torusWalksSpec.post enc Try.prog Try.f6 false true false false) := by
  refine returnsInHanded_of_change (C := Try.checked) own started (by kernel_rfl) Try.func6
    (ChangeSpec.witness6 (enc := enc) (C := Try.checked) false ⟨#[], #[.agg #[.int .i64 0, .int .i64 0, .int .i64 0], .agg #[.int .i64 0, .slice none 0 0], .int .i64 0], []⟩ 8 (by kernel_rfl) (by kernel_rfl) (by kernel_rfl) (by kernel_rfl)) ?_
  intro W base args ds gs before hval0 hW hcnd _
  have hval : ∀ (j : Nat) t v, Try.f6.params[j]? = some t → args[j]? = some v → Value.okWide Try.prog W .any base t v := hval0
  have hW' := hW
  obtain ⟨p, q, hA0, hV, rfl, hfz, hnd⟩ := hW
  have hA : DataW.TrodAll enc Try.prog W 0 (fun _ => true) true Try.f6.params.toList args.toList ds p := hA0
  rw [Try.params6] at hA hval
  obtain ⟨v0, vs0, d0, ds0, p0, q0, hargs, rfl, rfl, h0, r0⟩ := trodAll_cons hA
  obtain ⟨v1, vs1, d1, ds1, p1, q1, rfl, rfl, rfl, h1, r1⟩ := trodAll_cons r0
  obtain ⟨v2, vs2, d2, ds2, p2, q2, rfl, rfl, rfl, h2, r2⟩ := trodAll_cons r1
  obtain ⟨rfl, rfl, rfl⟩ := trodAll_nil r2
  obtain rfl : args = #[v0, v1, v2] := by cases args; simp_all
  obtain ⟨rfl, rfl⟩ := trodVars_none hV
  have k0 := h0
  have lt0 : ∀ x ∈ p0, x.block < W.heap.size := by obtain ⟨m, hm⟩ := k0; exact DataW.trod_lt m _ _ _ hm
  obtain ⟨x0, y0, z0, rfl⟩ := open_arr3 (hval 0 22 v0 rfl rfl) h0
  have k1 := h1
  have lt1 : ∀ x ∈ p1, x.block < W.heap.size := by obtain ⟨m, hm⟩ := k1; exact DataW.trod_lt m _ _ _ hm
  obtain ⟨s1, ao1, l1, cap1, rfl, hl1, hc1, hm1⟩ := open_path (hval 1 47 v1 rfl rfl) h1
  have k2 := h2
  have lt2 : ∀ x ∈ p2, x.block < W.heap.size := by obtain ⟨m, hm⟩ := k2; exact DataW.trod_lt m _ _ _ hm
  obtain ⟨x2, e2, -, -, -⟩ := open_int Try.underlying3 (hval 2 3 v2 rfl rfl) h2
  subst e2
  clear hA0 hval0
  refine (torusWalks_walk x0 y0 z0 s1 ao1 l1 cap1 x2 W hl1 hc1 hm1).mono fun e W' ⟨he, bel⟩ => ?_
  subst he
  exact ⟨_, rfl, _, _, _, [], _, [], hW', trodAll_mk1 (shut_bool Try.underlying4 _), (trodAll_cons_mk (Below.trod laidOut (by kernel_rfl) (of_decide_eq_true (by kernel_rfl)) k0 bel lt0) (trodAll_cons_mk (Below.trod laidOut (by kernel_rfl) (of_decide_eq_true (by kernel_rfl)) k1 bel lt1) (trodAll_cons_mk (Below.trod laidOut (by kernel_rfl) (of_decide_eq_true (by kernel_rfl)) k2 bel lt2) trodAll_mk0))), rfl, bel.frame _, fun h => by cases h⟩

theorem torusWalks_over : Rows.torusWalksRow.holds Try.pinned (OpenSpec.ofChange Rows.torusWalksSpec) :=
  OpenClaim.holds_of_wide 6 Try.f6 rfl rfl rfl rfl rfl rfl rfl ⟨rfl, rfl, rfl, rfl, rfl⟩ rfl rfl rfl rfl rfl (by kernel_rfl) Try.func6 (by kernel_rfl)
    (of_decide_eq_true (by kernel_rfl)) (by unfold Func.isWrapper; first | (rw [if_pos (by decide +kernel)]; kernel_rfl) | (rw [if_neg (by decide +kernel)]; exact ⟨rfl, rfl⟩))
    (fun os started H enc _ => torusWalks_lifted os started H enc)

theorem torusWalks_holds : Rows.TorusWalksSaid := torusWalks_over
#print axioms torusWalks_holds

end Go.Proofs.Ytdoepghffkpncaa
