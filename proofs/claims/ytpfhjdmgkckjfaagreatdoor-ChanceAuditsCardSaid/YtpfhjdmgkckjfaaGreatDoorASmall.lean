/- The small units by their numbers, as the program makes them: signs and parts.
Conditions: the numbers that are written. -/
import Derived.Test.YtpfhjdmgkckjfaaGreatDoorADist
namespace Go.Proofs.YtpfhjdmgkckjfaaGreatDoor
set_option linter.unusedVariables false
set_option linter.unusedSimpArgs false
open Go.RowKit
open Um

theorem and1 : ∀ k : Nat, k < 24 → bits BinOp.and IntKind.i64 (k : Int) 1 = (k : Int) % 2 := by decide +kernel
theorem and1' (x : Int) (h0 : 0 ≤ x) (h1 : x ≤ 23) : bits BinOp.and IntKind.i64 x 1 = x % 2 := by
  obtain ⟨k, rfl⟩ := Int.eq_ofNat_of_zero_le h0
  exact and1 k (by omega)
theorem sgn_wrap (x : Int) (h0 : 0 ≤ x) (h1 : x ≤ 23) : wrap64 (1 - wrap64 (2 * bits BinOp.and IntKind.i64 x 1)) = 1 - 2 * (x % 2) := by
  rw [and1' x h0 h1, IntWalk.wrap64_in (2 * (x % 2)) ⟨by omega, by omega⟩, IntWalk.wrap64_in (1 - 2 * (x % 2)) ⟨by omega, by omega⟩]

/-- the sign of a bit -/
def sgn (n b : Int) : Int := 1 - 2 * ((if b = 0 then n else if b = 1 then n / 2 else if b = 2 then n / 4 else n / 8) % 2)

set_option maxHeartbeats 800000 in
theorem signOf_any (n b : Int) (w : World) (h0 : 0 ≤ n) (h1 : n ≤ 23) (hb : b = 0 ∨ b = 1 ∨ b = 2 ∨ b = 3) : Calls Tryz.prog 85 #[.int .i64 n, .int .i64 b] w fun e w' => e = .returned (.int .i64 (sgn n b)) ∧ w = w' := by
  rcases hb with rfl | rfl | rfl | rfl
  · have e := sgn_wrap n h0 h1
    have HE := Lib.hid e
    clear e
    go_enter Tryz.func85, Tryz.ntmps85
    go_wp2
    go_ret
    exact ⟨congrArg (fun z => Ending.returned (Value.int .i64 z)) HE.out, rfl⟩
  · have e := sgn_wrap (n / 2) (by omega) (by omega)
    have HE := Lib.hid e
    clear e
    go_enter Tryz.func85, Tryz.ntmps85
    go_wp2
    go_ret
    exact ⟨congrArg (fun z => Ending.returned (Value.int .i64 z)) HE.out, rfl⟩
  · have e := sgn_wrap (n / 4) (by omega) (by omega)
    have HE := Lib.hid e
    clear e
    go_enter Tryz.func85, Tryz.ntmps85
    go_wp2
    go_ret
    exact ⟨congrArg (fun z => Ending.returned (Value.int .i64 z)) HE.out, rfl⟩
  · have e := sgn_wrap (n / 8) (by omega) (by omega)
    have HE := Lib.hid e
    clear e
    go_enter Tryz.func85, Tryz.ntmps85
    go_wp2
    go_ret
    exact ⟨congrArg (fun z => Ending.returned (Value.int .i64 z)) HE.out, rfl⟩

set_option maxHeartbeats 800000 in
theorem unitOf_any (a b c d n : Int) (w : World) : Calls Tryz.prog 86 #[.agg #[.int .i64 a, .int .i64 b, .int .i64 c, .int .i64 d], .int .i64 n] w fun e w' => e = .returned (.agg #[.int .i64 a, .int .i64 b, .int .i64 c, .int .i64 d, .int .i64 n]) ∧ Below w.heap.size w w' := by
  go_enter Tryz.func86, Tryz.ntmps86
  go_wp2
  refine bodyPost_ret (v := .agg #[.int .i64 a, .int .i64 b, .int .i64 c, .int .i64 d, .int .i64 n]) ?_ rfl ⟨rfl, ?_⟩
  · simp [results, Tryz.results86, go_sem]
  · repeat (first | (with_reducible exact Below.refl _ _) | (with_reducible refine Below.setCell ?_ ?_ _) | (with_reducible refine Below.drew ?_) | (with_reducible refine Below.alloc ?_ ?_ _) | omega | (simp <;> omega))

set_option maxHeartbeats 800000 in
theorem small_0 (w : World) : Calls Tryz.prog 49 #[.int .i64 0] w fun e w' => e = .returned (.tuple #[.agg #[.int .i64 (small 0).a, .int .i64 (small 0).b, .int .i64 (small 0).c, .int .i64 (small 0).d, .int .i64 (small 0).n], .int .i64 0]) ∧ Below w.heap.size w w' := by
  have c1 := fun W : World => signOf_any 0 0 W (by omega) (by omega) (by omega)
  have e : sgn 0 0 = 1 := by decide
  rw [e] at c1
  clear e
  go_enter Tryz.func49, Tryz.ntmps49
  go_wp2_with (first | ((with_reducible refine (c1 _).mono ?_); rintro e w1 ⟨rfl, rfl⟩) | (go_at_call 86; refine (unitOf_any _ _ _ _ _ _).mono ?_; rintro e w1 ⟨rfl, hw1⟩; have hc1 := Tail.cells hw1; have zw10 := Nat.lt_of_lt_of_le (n := w.heap.size) (by simp <;> omega) hw1.size; have zw11 := Nat.lt_of_lt_of_le (n := w.heap.size + 1) (by simp <;> omega) hw1.size; have kw1a0 : w1.cell? ⟨w.heap.size, 0, none⟩ = some (.int .i64 0) := (hc1.1 _ _ (by simp <;> omega)).trans (by simp [go_sem]); have kw1a1 : w1.cell? ⟨w.heap.size, 1, none⟩ = some (.int .i64 0) := (hc1.1 _ _ (by simp <;> omega)).trans (by simp [go_sem]); have kw1a2 : w1.cell? ⟨w.heap.size, 2, none⟩ = some (.int .i64 0) := (hc1.1 _ _ (by simp <;> omega)).trans (by simp [go_sem]); have kw1a3 : w1.cell? ⟨w.heap.size, 3, none⟩ = some (.int .i64 0) := (hc1.1 _ _ (by simp <;> omega)).trans (by simp [go_sem]); have kw1a4 : w1.cell? ⟨w.heap.size, 4, none⟩ = some (.int .i64 0) := (hc1.1 _ _ (by simp <;> omega)).trans (by simp [go_sem])))
  refine bodyPost_ret (v := .tuple #[.agg #[.int .i64 (small 0).a, .int .i64 (small 0).b, .int .i64 (small 0).c, .int .i64 (small 0).d, .int .i64 (small 0).n], .int .i64 0]) ?_ rfl ⟨rfl, ?_⟩
  · simp [results, Tryz.results49, go_sem, hc1, small, zw10, zw11, kw1a0, kw1a1, kw1a2, kw1a3, kw1a4]
  · repeat (first | (with_reducible exact Below.refl _ _) | (with_reducible refine Below.setCell ?_ ?_ _) | (with_reducible refine Below.drew ?_) | (with_reducible refine Below.alloc ?_ ?_ _) | (with_reducible refine Below.trans ?_ (Below.mono hw1 ?_)) | (with_reducible exact hw1.size) | omega | (simp <;> omega) | (simp <;> (have s := hw1.size; omega)) | (have s0 := hw1.size; (try simp at s0); (try simp); omega))

set_option maxHeartbeats 800000 in
theorem small_1 (w : World) : Calls Tryz.prog 49 #[.int .i64 1] w fun e w' => e = .returned (.tuple #[.agg #[.int .i64 (small 1).a, .int .i64 (small 1).b, .int .i64 (small 1).c, .int .i64 (small 1).d, .int .i64 (small 1).n], .int .i64 0]) ∧ Below w.heap.size w w' := by
  have c1 := fun W : World => signOf_any 1 0 W (by omega) (by omega) (by omega)
  have e : sgn 1 0 = -1 := by decide
  rw [e] at c1
  clear e
  go_enter Tryz.func49, Tryz.ntmps49
  go_wp2_with (first | ((with_reducible refine (c1 _).mono ?_); rintro e w1 ⟨rfl, rfl⟩) | (go_at_call 86; refine (unitOf_any _ _ _ _ _ _).mono ?_; rintro e w1 ⟨rfl, hw1⟩; have hc1 := Tail.cells hw1; have zw10 := Nat.lt_of_lt_of_le (n := w.heap.size) (by simp <;> omega) hw1.size; have zw11 := Nat.lt_of_lt_of_le (n := w.heap.size + 1) (by simp <;> omega) hw1.size; have kw1a0 : w1.cell? ⟨w.heap.size, 0, none⟩ = some (.int .i64 0) := (hc1.1 _ _ (by simp <;> omega)).trans (by simp [go_sem]); have kw1a1 : w1.cell? ⟨w.heap.size, 1, none⟩ = some (.int .i64 0) := (hc1.1 _ _ (by simp <;> omega)).trans (by simp [go_sem]); have kw1a2 : w1.cell? ⟨w.heap.size, 2, none⟩ = some (.int .i64 0) := (hc1.1 _ _ (by simp <;> omega)).trans (by simp [go_sem]); have kw1a3 : w1.cell? ⟨w.heap.size, 3, none⟩ = some (.int .i64 0) := (hc1.1 _ _ (by simp <;> omega)).trans (by simp [go_sem]); have kw1a4 : w1.cell? ⟨w.heap.size, 4, none⟩ = some (.int .i64 0) := (hc1.1 _ _ (by simp <;> omega)).trans (by simp [go_sem])))
  refine bodyPost_ret (v := .tuple #[.agg #[.int .i64 (small 1).a, .int .i64 (small 1).b, .int .i64 (small 1).c, .int .i64 (small 1).d, .int .i64 (small 1).n], .int .i64 0]) ?_ rfl ⟨rfl, ?_⟩
  · simp [results, Tryz.results49, go_sem, hc1, small, zw10, zw11, kw1a0, kw1a1, kw1a2, kw1a3, kw1a4]
  · repeat (first | (with_reducible exact Below.refl _ _) | (with_reducible refine Below.setCell ?_ ?_ _) | (with_reducible refine Below.drew ?_) | (with_reducible refine Below.alloc ?_ ?_ _) | (with_reducible refine Below.trans ?_ (Below.mono hw1 ?_)) | (with_reducible exact hw1.size) | omega | (simp <;> omega) | (simp <;> (have s := hw1.size; omega)) | (have s0 := hw1.size; (try simp at s0); (try simp); omega))

set_option maxHeartbeats 800000 in
theorem small_2 (w : World) : Calls Tryz.prog 49 #[.int .i64 2] w fun e w' => e = .returned (.tuple #[.agg #[.int .i64 (small 2).a, .int .i64 (small 2).b, .int .i64 (small 2).c, .int .i64 (small 2).d, .int .i64 (small 2).n], .int .i64 0]) ∧ Below w.heap.size w w' := by
  have c1 := fun W : World => signOf_any 2 0 W (by omega) (by omega) (by omega)
  have e : sgn 2 0 = 1 := by decide
  rw [e] at c1
  clear e
  go_enter Tryz.func49, Tryz.ntmps49
  go_wp2_with (first | ((with_reducible refine (c1 _).mono ?_); rintro e w1 ⟨rfl, rfl⟩) | (go_at_call 86; refine (unitOf_any _ _ _ _ _ _).mono ?_; rintro e w1 ⟨rfl, hw1⟩; have hc1 := Tail.cells hw1; have zw10 := Nat.lt_of_lt_of_le (n := w.heap.size) (by simp <;> omega) hw1.size; have zw11 := Nat.lt_of_lt_of_le (n := w.heap.size + 1) (by simp <;> omega) hw1.size; have kw1a0 : w1.cell? ⟨w.heap.size, 0, none⟩ = some (.int .i64 0) := (hc1.1 _ _ (by simp <;> omega)).trans (by simp [go_sem]); have kw1a1 : w1.cell? ⟨w.heap.size, 1, none⟩ = some (.int .i64 0) := (hc1.1 _ _ (by simp <;> omega)).trans (by simp [go_sem]); have kw1a2 : w1.cell? ⟨w.heap.size, 2, none⟩ = some (.int .i64 0) := (hc1.1 _ _ (by simp <;> omega)).trans (by simp [go_sem]); have kw1a3 : w1.cell? ⟨w.heap.size, 3, none⟩ = some (.int .i64 0) := (hc1.1 _ _ (by simp <;> omega)).trans (by simp [go_sem]); have kw1a4 : w1.cell? ⟨w.heap.size, 4, none⟩ = some (.int .i64 0) := (hc1.1 _ _ (by simp <;> omega)).trans (by simp [go_sem])))
  refine bodyPost_ret (v := .tuple #[.agg #[.int .i64 (small 2).a, .int .i64 (small 2).b, .int .i64 (small 2).c, .int .i64 (small 2).d, .int .i64 (small 2).n], .int .i64 0]) ?_ rfl ⟨rfl, ?_⟩
  · simp [results, Tryz.results49, go_sem, hc1, small, zw10, zw11, kw1a0, kw1a1, kw1a2, kw1a3, kw1a4]
  · repeat (first | (with_reducible exact Below.refl _ _) | (with_reducible refine Below.setCell ?_ ?_ _) | (with_reducible refine Below.drew ?_) | (with_reducible refine Below.alloc ?_ ?_ _) | (with_reducible refine Below.trans ?_ (Below.mono hw1 ?_)) | (with_reducible exact hw1.size) | omega | (simp <;> omega) | (simp <;> (have s := hw1.size; omega)) | (have s0 := hw1.size; (try simp at s0); (try simp); omega))

set_option maxHeartbeats 800000 in
theorem small_3 (w : World) : Calls Tryz.prog 49 #[.int .i64 3] w fun e w' => e = .returned (.tuple #[.agg #[.int .i64 (small 3).a, .int .i64 (small 3).b, .int .i64 (small 3).c, .int .i64 (small 3).d, .int .i64 (small 3).n], .int .i64 0]) ∧ Below w.heap.size w w' := by
  have c1 := fun W : World => signOf_any 3 0 W (by omega) (by omega) (by omega)
  have e : sgn 3 0 = -1 := by decide
  rw [e] at c1
  clear e
  go_enter Tryz.func49, Tryz.ntmps49
  go_wp2_with (first | ((with_reducible refine (c1 _).mono ?_); rintro e w1 ⟨rfl, rfl⟩) | (go_at_call 86; refine (unitOf_any _ _ _ _ _ _).mono ?_; rintro e w1 ⟨rfl, hw1⟩; have hc1 := Tail.cells hw1; have zw10 := Nat.lt_of_lt_of_le (n := w.heap.size) (by simp <;> omega) hw1.size; have zw11 := Nat.lt_of_lt_of_le (n := w.heap.size + 1) (by simp <;> omega) hw1.size; have kw1a0 : w1.cell? ⟨w.heap.size, 0, none⟩ = some (.int .i64 0) := (hc1.1 _ _ (by simp <;> omega)).trans (by simp [go_sem]); have kw1a1 : w1.cell? ⟨w.heap.size, 1, none⟩ = some (.int .i64 0) := (hc1.1 _ _ (by simp <;> omega)).trans (by simp [go_sem]); have kw1a2 : w1.cell? ⟨w.heap.size, 2, none⟩ = some (.int .i64 0) := (hc1.1 _ _ (by simp <;> omega)).trans (by simp [go_sem]); have kw1a3 : w1.cell? ⟨w.heap.size, 3, none⟩ = some (.int .i64 0) := (hc1.1 _ _ (by simp <;> omega)).trans (by simp [go_sem]); have kw1a4 : w1.cell? ⟨w.heap.size, 4, none⟩ = some (.int .i64 0) := (hc1.1 _ _ (by simp <;> omega)).trans (by simp [go_sem])))
  refine bodyPost_ret (v := .tuple #[.agg #[.int .i64 (small 3).a, .int .i64 (small 3).b, .int .i64 (small 3).c, .int .i64 (small 3).d, .int .i64 (small 3).n], .int .i64 0]) ?_ rfl ⟨rfl, ?_⟩
  · simp [results, Tryz.results49, go_sem, hc1, small, zw10, zw11, kw1a0, kw1a1, kw1a2, kw1a3, kw1a4]
  · repeat (first | (with_reducible exact Below.refl _ _) | (with_reducible refine Below.setCell ?_ ?_ _) | (with_reducible refine Below.drew ?_) | (with_reducible refine Below.alloc ?_ ?_ _) | (with_reducible refine Below.trans ?_ (Below.mono hw1 ?_)) | (with_reducible exact hw1.size) | omega | (simp <;> omega) | (simp <;> (have s := hw1.size; omega)) | (have s0 := hw1.size; (try simp at s0); (try simp); omega))

set_option maxHeartbeats 800000 in
theorem small_4 (w : World) : Calls Tryz.prog 49 #[.int .i64 4] w fun e w' => e = .returned (.tuple #[.agg #[.int .i64 (small 4).a, .int .i64 (small 4).b, .int .i64 (small 4).c, .int .i64 (small 4).d, .int .i64 (small 4).n], .int .i64 0]) ∧ Below w.heap.size w w' := by
  have c1 := fun W : World => signOf_any 4 0 W (by omega) (by omega) (by omega)
  have e : sgn 4 0 = 1 := by decide
  rw [e] at c1
  clear e
  go_enter Tryz.func49, Tryz.ntmps49
  go_wp2_with (first | ((with_reducible refine (c1 _).mono ?_); rintro e w1 ⟨rfl, rfl⟩) | (go_at_call 86; refine (unitOf_any _ _ _ _ _ _).mono ?_; rintro e w1 ⟨rfl, hw1⟩; have hc1 := Tail.cells hw1; have zw10 := Nat.lt_of_lt_of_le (n := w.heap.size) (by simp <;> omega) hw1.size; have zw11 := Nat.lt_of_lt_of_le (n := w.heap.size + 1) (by simp <;> omega) hw1.size; have kw1a0 : w1.cell? ⟨w.heap.size, 0, none⟩ = some (.int .i64 0) := (hc1.1 _ _ (by simp <;> omega)).trans (by simp [go_sem]); have kw1a1 : w1.cell? ⟨w.heap.size, 1, none⟩ = some (.int .i64 0) := (hc1.1 _ _ (by simp <;> omega)).trans (by simp [go_sem]); have kw1a2 : w1.cell? ⟨w.heap.size, 2, none⟩ = some (.int .i64 0) := (hc1.1 _ _ (by simp <;> omega)).trans (by simp [go_sem]); have kw1a3 : w1.cell? ⟨w.heap.size, 3, none⟩ = some (.int .i64 0) := (hc1.1 _ _ (by simp <;> omega)).trans (by simp [go_sem]); have kw1a4 : w1.cell? ⟨w.heap.size, 4, none⟩ = some (.int .i64 0) := (hc1.1 _ _ (by simp <;> omega)).trans (by simp [go_sem])))
  refine bodyPost_ret (v := .tuple #[.agg #[.int .i64 (small 4).a, .int .i64 (small 4).b, .int .i64 (small 4).c, .int .i64 (small 4).d, .int .i64 (small 4).n], .int .i64 0]) ?_ rfl ⟨rfl, ?_⟩
  · simp [results, Tryz.results49, go_sem, hc1, small, zw10, zw11, kw1a0, kw1a1, kw1a2, kw1a3, kw1a4]
  · repeat (first | (with_reducible exact Below.refl _ _) | (with_reducible refine Below.setCell ?_ ?_ _) | (with_reducible refine Below.drew ?_) | (with_reducible refine Below.alloc ?_ ?_ _) | (with_reducible refine Below.trans ?_ (Below.mono hw1 ?_)) | (with_reducible exact hw1.size) | omega | (simp <;> omega) | (simp <;> (have s := hw1.size; omega)) | (have s0 := hw1.size; (try simp at s0); (try simp); omega))

set_option maxHeartbeats 800000 in
theorem small_5 (w : World) : Calls Tryz.prog 49 #[.int .i64 5] w fun e w' => e = .returned (.tuple #[.agg #[.int .i64 (small 5).a, .int .i64 (small 5).b, .int .i64 (small 5).c, .int .i64 (small 5).d, .int .i64 (small 5).n], .int .i64 0]) ∧ Below w.heap.size w w' := by
  have c1 := fun W : World => signOf_any 5 0 W (by omega) (by omega) (by omega)
  have e : sgn 5 0 = -1 := by decide
  rw [e] at c1
  clear e
  go_enter Tryz.func49, Tryz.ntmps49
  go_wp2_with (first | ((with_reducible refine (c1 _).mono ?_); rintro e w1 ⟨rfl, rfl⟩) | (go_at_call 86; refine (unitOf_any _ _ _ _ _ _).mono ?_; rintro e w1 ⟨rfl, hw1⟩; have hc1 := Tail.cells hw1; have zw10 := Nat.lt_of_lt_of_le (n := w.heap.size) (by simp <;> omega) hw1.size; have zw11 := Nat.lt_of_lt_of_le (n := w.heap.size + 1) (by simp <;> omega) hw1.size; have kw1a0 : w1.cell? ⟨w.heap.size, 0, none⟩ = some (.int .i64 0) := (hc1.1 _ _ (by simp <;> omega)).trans (by simp [go_sem]); have kw1a1 : w1.cell? ⟨w.heap.size, 1, none⟩ = some (.int .i64 0) := (hc1.1 _ _ (by simp <;> omega)).trans (by simp [go_sem]); have kw1a2 : w1.cell? ⟨w.heap.size, 2, none⟩ = some (.int .i64 0) := (hc1.1 _ _ (by simp <;> omega)).trans (by simp [go_sem]); have kw1a3 : w1.cell? ⟨w.heap.size, 3, none⟩ = some (.int .i64 0) := (hc1.1 _ _ (by simp <;> omega)).trans (by simp [go_sem]); have kw1a4 : w1.cell? ⟨w.heap.size, 4, none⟩ = some (.int .i64 0) := (hc1.1 _ _ (by simp <;> omega)).trans (by simp [go_sem])))
  refine bodyPost_ret (v := .tuple #[.agg #[.int .i64 (small 5).a, .int .i64 (small 5).b, .int .i64 (small 5).c, .int .i64 (small 5).d, .int .i64 (small 5).n], .int .i64 0]) ?_ rfl ⟨rfl, ?_⟩
  · simp [results, Tryz.results49, go_sem, hc1, small, zw10, zw11, kw1a0, kw1a1, kw1a2, kw1a3, kw1a4]
  · repeat (first | (with_reducible exact Below.refl _ _) | (with_reducible refine Below.setCell ?_ ?_ _) | (with_reducible refine Below.drew ?_) | (with_reducible refine Below.alloc ?_ ?_ _) | (with_reducible refine Below.trans ?_ (Below.mono hw1 ?_)) | (with_reducible exact hw1.size) | omega | (simp <;> omega) | (simp <;> (have s := hw1.size; omega)) | (have s0 := hw1.size; (try simp at s0); (try simp); omega))

set_option maxHeartbeats 800000 in
theorem small_6 (w : World) : Calls Tryz.prog 49 #[.int .i64 6] w fun e w' => e = .returned (.tuple #[.agg #[.int .i64 (small 6).a, .int .i64 (small 6).b, .int .i64 (small 6).c, .int .i64 (small 6).d, .int .i64 (small 6).n], .int .i64 0]) ∧ Below w.heap.size w w' := by
  have c1 := fun W : World => signOf_any 6 0 W (by omega) (by omega) (by omega)
  have e : sgn 6 0 = 1 := by decide
  rw [e] at c1
  clear e
  go_enter Tryz.func49, Tryz.ntmps49
  go_wp2_with (first | ((with_reducible refine (c1 _).mono ?_); rintro e w1 ⟨rfl, rfl⟩) | (go_at_call 86; refine (unitOf_any _ _ _ _ _ _).mono ?_; rintro e w1 ⟨rfl, hw1⟩; have hc1 := Tail.cells hw1; have zw10 := Nat.lt_of_lt_of_le (n := w.heap.size) (by simp <;> omega) hw1.size; have zw11 := Nat.lt_of_lt_of_le (n := w.heap.size + 1) (by simp <;> omega) hw1.size; have kw1a0 : w1.cell? ⟨w.heap.size, 0, none⟩ = some (.int .i64 0) := (hc1.1 _ _ (by simp <;> omega)).trans (by simp [go_sem]); have kw1a1 : w1.cell? ⟨w.heap.size, 1, none⟩ = some (.int .i64 0) := (hc1.1 _ _ (by simp <;> omega)).trans (by simp [go_sem]); have kw1a2 : w1.cell? ⟨w.heap.size, 2, none⟩ = some (.int .i64 0) := (hc1.1 _ _ (by simp <;> omega)).trans (by simp [go_sem]); have kw1a3 : w1.cell? ⟨w.heap.size, 3, none⟩ = some (.int .i64 0) := (hc1.1 _ _ (by simp <;> omega)).trans (by simp [go_sem]); have kw1a4 : w1.cell? ⟨w.heap.size, 4, none⟩ = some (.int .i64 0) := (hc1.1 _ _ (by simp <;> omega)).trans (by simp [go_sem])))
  refine bodyPost_ret (v := .tuple #[.agg #[.int .i64 (small 6).a, .int .i64 (small 6).b, .int .i64 (small 6).c, .int .i64 (small 6).d, .int .i64 (small 6).n], .int .i64 0]) ?_ rfl ⟨rfl, ?_⟩
  · simp [results, Tryz.results49, go_sem, hc1, small, zw10, zw11, kw1a0, kw1a1, kw1a2, kw1a3, kw1a4]
  · repeat (first | (with_reducible exact Below.refl _ _) | (with_reducible refine Below.setCell ?_ ?_ _) | (with_reducible refine Below.drew ?_) | (with_reducible refine Below.alloc ?_ ?_ _) | (with_reducible refine Below.trans ?_ (Below.mono hw1 ?_)) | (with_reducible exact hw1.size) | omega | (simp <;> omega) | (simp <;> (have s := hw1.size; omega)) | (have s0 := hw1.size; (try simp at s0); (try simp); omega))

set_option maxHeartbeats 800000 in
theorem small_7 (w : World) : Calls Tryz.prog 49 #[.int .i64 7] w fun e w' => e = .returned (.tuple #[.agg #[.int .i64 (small 7).a, .int .i64 (small 7).b, .int .i64 (small 7).c, .int .i64 (small 7).d, .int .i64 (small 7).n], .int .i64 0]) ∧ Below w.heap.size w w' := by
  have c1 := fun W : World => signOf_any 7 0 W (by omega) (by omega) (by omega)
  have e : sgn 7 0 = -1 := by decide
  rw [e] at c1
  clear e
  go_enter Tryz.func49, Tryz.ntmps49
  go_wp2_with (first | ((with_reducible refine (c1 _).mono ?_); rintro e w1 ⟨rfl, rfl⟩) | (go_at_call 86; refine (unitOf_any _ _ _ _ _ _).mono ?_; rintro e w1 ⟨rfl, hw1⟩; have hc1 := Tail.cells hw1; have zw10 := Nat.lt_of_lt_of_le (n := w.heap.size) (by simp <;> omega) hw1.size; have zw11 := Nat.lt_of_lt_of_le (n := w.heap.size + 1) (by simp <;> omega) hw1.size; have kw1a0 : w1.cell? ⟨w.heap.size, 0, none⟩ = some (.int .i64 0) := (hc1.1 _ _ (by simp <;> omega)).trans (by simp [go_sem]); have kw1a1 : w1.cell? ⟨w.heap.size, 1, none⟩ = some (.int .i64 0) := (hc1.1 _ _ (by simp <;> omega)).trans (by simp [go_sem]); have kw1a2 : w1.cell? ⟨w.heap.size, 2, none⟩ = some (.int .i64 0) := (hc1.1 _ _ (by simp <;> omega)).trans (by simp [go_sem]); have kw1a3 : w1.cell? ⟨w.heap.size, 3, none⟩ = some (.int .i64 0) := (hc1.1 _ _ (by simp <;> omega)).trans (by simp [go_sem]); have kw1a4 : w1.cell? ⟨w.heap.size, 4, none⟩ = some (.int .i64 0) := (hc1.1 _ _ (by simp <;> omega)).trans (by simp [go_sem])))
  refine bodyPost_ret (v := .tuple #[.agg #[.int .i64 (small 7).a, .int .i64 (small 7).b, .int .i64 (small 7).c, .int .i64 (small 7).d, .int .i64 (small 7).n], .int .i64 0]) ?_ rfl ⟨rfl, ?_⟩
  · simp [results, Tryz.results49, go_sem, hc1, small, zw10, zw11, kw1a0, kw1a1, kw1a2, kw1a3, kw1a4]
  · repeat (first | (with_reducible exact Below.refl _ _) | (with_reducible refine Below.setCell ?_ ?_ _) | (with_reducible refine Below.drew ?_) | (with_reducible refine Below.alloc ?_ ?_ _) | (with_reducible refine Below.trans ?_ (Below.mono hw1 ?_)) | (with_reducible exact hw1.size) | omega | (simp <;> omega) | (simp <;> (have s := hw1.size; omega)) | (have s0 := hw1.size; (try simp at s0); (try simp); omega))

set_option maxHeartbeats 1600000 in
theorem small_high (n : Int) (w : World) (h8 : 8 ≤ n) (h23 : n ≤ 23) : Calls Tryz.prog 49 #[.int .i64 n] w fun e w' => e = .returned (.tuple #[.agg #[.int .i64 (small n).a, .int .i64 (small n).b, .int .i64 (small n).c, .int .i64 (small n).d, .int .i64 (small n).n], .int .i64 0]) ∧ Below w.heap.size w w' := by
  have c1 := fun (b : Int) (hb : b = 0 ∨ b = 1 ∨ b = 2 ∨ b = 3) (W : World) => signOf_any (n - 8) b W (by omega) (by omega) hb
  have es : small n = ⟨sgn (n - 8) 0, sgn (n - 8) 1, sgn (n - 8) 2, sgn (n - 8) 3, 2⟩ := by
    unfold small
    rw [if_neg (by omega)]
    rfl
  rw [es]
  clear es
  go_enter Tryz.func49, Tryz.ntmps49
  go_wp2
  refine wp_loop_rounds 5 ?_
  rw [rounds_succ]
  go_wp2_with (with_reducible refine (c1 0 (by omega) _).mono ?_; rintro e w1 ⟨rfl, rfl⟩)
  rw [rounds_succ]
  go_wp2_with (with_reducible refine (c1 1 (by omega) _).mono ?_; rintro e w1 ⟨rfl, rfl⟩)
  rw [rounds_succ]
  go_wp2_with (with_reducible refine (c1 2 (by omega) _).mono ?_; rintro e w1 ⟨rfl, rfl⟩)
  rw [rounds_succ]
  go_wp2_with (with_reducible refine (c1 3 (by omega) _).mono ?_; rintro e w1 ⟨rfl, rfl⟩)
  rw [rounds_succ]
  go_wp2_with (go_at_call 86; refine (unitOf_any _ _ _ _ _ _).mono ?_; rintro e w1 ⟨rfl, hw1⟩; have hc1 := Tail.cells hw1; have zw10 := Nat.lt_of_lt_of_le (n := w.heap.size) (by simp <;> omega) hw1.size; have zw11 := Nat.lt_of_lt_of_le (n := w.heap.size + 1) (by simp <;> omega) hw1.size; have kw1a0 : w1.cell? ⟨w.heap.size, 0, none⟩ = some (.int .i64 0) := (hc1.1 _ _ (by simp <;> omega)).trans (by simp [go_sem]); have kw1a1 : w1.cell? ⟨w.heap.size, 1, none⟩ = some (.int .i64 0) := (hc1.1 _ _ (by simp <;> omega)).trans (by simp [go_sem]); have kw1a2 : w1.cell? ⟨w.heap.size, 2, none⟩ = some (.int .i64 0) := (hc1.1 _ _ (by simp <;> omega)).trans (by simp [go_sem]); have kw1a3 : w1.cell? ⟨w.heap.size, 3, none⟩ = some (.int .i64 0) := (hc1.1 _ _ (by simp <;> omega)).trans (by simp [go_sem]); have kw1a4 : w1.cell? ⟨w.heap.size, 4, none⟩ = some (.int .i64 0) := (hc1.1 _ _ (by simp <;> omega)).trans (by simp [go_sem]))
  refine bodyPost_ret (v := .tuple #[.agg #[.int .i64 (sgn (n - 8) 0), .int .i64 (sgn (n - 8) 1), .int .i64 (sgn (n - 8) 2), .int .i64 (sgn (n - 8) 3), .int .i64 2], .int .i64 0]) ?_ rfl ⟨rfl, ?_⟩
  · simp [results, Tryz.results49, go_sem, zw10, zw11, kw1a0, kw1a1, kw1a2, kw1a3, kw1a4]
  · repeat (first | (with_reducible exact Below.refl _ _) | (with_reducible refine Below.setCell ?_ ?_ _) | (with_reducible refine Below.drew ?_) | (with_reducible refine Below.alloc ?_ ?_ _) | (with_reducible refine Below.trans ?_ (Below.mono hw1 ?_)) | (with_reducible exact hw1.size) | omega | (simp <;> omega) | (simp <;> (have s := hw1.size; omega)) | (have s0 := hw1.size; (try simp at s0); (try simp); omega))

theorem small_any (n : Int) (w : World) (h0 : 0 ≤ n) (h23 : n ≤ 23) : Calls Tryz.prog 49 #[.int .i64 n] w fun e w' => e = .returned (.tuple #[.agg #[.int .i64 (small n).a, .int .i64 (small n).b, .int .i64 (small n).c, .int .i64 (small n).d, .int .i64 (small n).n], .int .i64 0]) ∧ Below w.heap.size w w' := by
  by_cases h : n < 8
  · have : n = 0 ∨ n = 1 ∨ n = 2 ∨ n = 3 ∨ n = 4 ∨ n = 5 ∨ n = 6 ∨ n = 7 := by omega
    rcases this with rfl | rfl | rfl | rfl | rfl | rfl | rfl | rfl
    · exact small_0 w
    · exact small_1 w
    · exact small_2 w
    · exact small_3 w
    · exact small_4 w
    · exact small_5 w
    · exact small_6 w
    · exact small_7 w
  · exact small_high n w (by omega) h23

end Go.Proofs.YtpfhjdmgkckjfaaGreatDoor
