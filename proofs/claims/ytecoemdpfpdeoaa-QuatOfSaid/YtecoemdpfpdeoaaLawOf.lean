/- QuatOf: the unit that five numbers stand for is the document's, for all numbers, and it is valid.
Conditions: none. -/
import Derived.Test.YtecoemdpfpdeoaaMulCases
namespace Go.Proofs.Ytecoemdpfpdeoaa
set_option linter.unusedVariables false
set_option linter.unusedSimpArgs false
open Go.ChangeShapes Go.WideShapes Go.ChangeAt Go.RowKit
open Um

/-- what five numbers stand for -/
def ofR (x r : Q) (er : Int) : Prop :=
  (U x ∧ x.n ≤ 1073741824 ∧ (low x).n ≤ 1048576 ∧ r = low x ∧ er = 0) ∨ (U x ∧ x.n ≤ 1073741824 ∧ 1048576 < (low x).n ∧ r = zero ∧ er = 3) ∨ (¬ (U x ∧ x.n ≤ 1073741824) ∧ r = zero ∧ er = 1)

set_option maxHeartbeats 1600000 in
theorem of_any (x r : Q) (er : Int) (w : World) (h : ofR x r er) : Calls Try.prog 23 #[.int .i64 x.a, .int .i64 x.b, .int .i64 x.c, .int .i64 x.d, .int .i64 x.n] w fun e w' => e = .returned (.tuple #[.agg #[.int .i64 r.a, .int .i64 r.b, .int .i64 r.c, .int .i64 r.d, .int .i64 r.n], .int .i64 er]) ∧ Below w.heap.size w w' := by
  by_cases h1 : x.n < 1
  · obtain ⟨rfl, rfl⟩ : r = zero ∧ er = 1 := by
      rcases h with h | h | h
      · have := h.1.pos; omega
      · have := h.1.pos; omega
      · exact h.2
    clear h
    go_enter Try.func23, Try.ntmps23
    go_wp2
    refine bodyPost_ret (v := .tuple #[.agg #[.int .i64 zero.a, .int .i64 zero.b, .int .i64 zero.c, .int .i64 zero.d, .int .i64 zero.n], .int .i64 1]) ?_ rfl ⟨rfl, ?_⟩
    · simp [results, Try.results23, go_sem, zero]
    · repeat (first | (with_reducible exact Below.refl _ _) | (with_reducible refine Below.setCell ?_ ?_ _) | (with_reducible refine Below.drew ?_) | (with_reducible refine Below.alloc ?_ ?_ _) | omega | (simp <;> omega))
  by_cases h2 : 1073741824 < x.n
  · obtain ⟨rfl, rfl⟩ : r = zero ∧ er = 1 := by
      rcases h with h | h | h
      · have := h.2.1; omega
      · have := h.2.1; omega
      · exact h.2
    clear h
    go_enter Try.func23, Try.ntmps23
    go_wp2
    refine bodyPost_ret (v := .tuple #[.agg #[.int .i64 zero.a, .int .i64 zero.b, .int .i64 zero.c, .int .i64 zero.d, .int .i64 zero.n], .int .i64 1]) ?_ rfl ⟨rfl, ?_⟩
    · simp [results, Try.results23, go_sem, zero]
    · repeat (first | (with_reducible exact Below.refl _ _) | (with_reducible refine Below.setCell ?_ ?_ _) | (with_reducible refine Below.drew ?_) | (with_reducible refine Below.alloc ?_ ?_ _) | omega | (simp <;> omega))
  have h3 : 0 < x.n := by omega
  have h4 : x.n ≤ 1073741824 := by omega
  have c1 := fun W : World => isUnit_any x W h3 h4
  cases hu : uB x
  · obtain ⟨rfl, rfl⟩ : r = zero ∧ er = 1 := by
      rcases h with h | h | h
      · rw [(uB_iff x h3).2 h.1] at hu; cases hu
      · rw [(uB_iff x h3).2 h.1] at hu; cases hu
      · exact h.2
    rw [hu] at c1
    clear h hu
    go_enter Try.func23, Try.ntmps23
    go_wp2_with ((with_reducible refine (c1 _).mono ?_); rintro e w1 ⟨rfl, hw1⟩; have hc := Tail.cells hw1; have zw10 := Nat.lt_of_lt_of_le (n := w.heap.size) (by simp <;> omega) hw1.size; have zw11 := Nat.lt_of_lt_of_le (n := w.heap.size + 1) (by simp <;> omega) hw1.size; have kw1a0 : w1.cell? ⟨w.heap.size, 0, none⟩ = some (.int .i64 0) := (hc.1 _ _ (by simp <;> omega)).trans (by simp [go_sem]); have kw1a1 : w1.cell? ⟨w.heap.size, 1, none⟩ = some (.int .i64 0) := (hc.1 _ _ (by simp <;> omega)).trans (by simp [go_sem]); have kw1a2 : w1.cell? ⟨w.heap.size, 2, none⟩ = some (.int .i64 0) := (hc.1 _ _ (by simp <;> omega)).trans (by simp [go_sem]); have kw1a3 : w1.cell? ⟨w.heap.size, 3, none⟩ = some (.int .i64 0) := (hc.1 _ _ (by simp <;> omega)).trans (by simp [go_sem]); have kw1a4 : w1.cell? ⟨w.heap.size, 4, none⟩ = some (.int .i64 0) := (hc.1 _ _ (by simp <;> omega)).trans (by simp [go_sem]))
    refine bodyPost_ret (v := .tuple #[.agg #[.int .i64 zero.a, .int .i64 zero.b, .int .i64 zero.c, .int .i64 zero.d, .int .i64 zero.n], .int .i64 1]) ?_ rfl ⟨rfl, ?_⟩
    · simp [results, Try.results23, go_sem, hc, zero, zw10, zw11, kw1a0, kw1a1, kw1a2, kw1a3, kw1a4]
    · repeat (first | (with_reducible exact Below.refl _ _) | (with_reducible refine Below.setCell ?_ ?_ _) | (with_reducible refine Below.drew ?_) | (with_reducible refine Below.alloc ?_ ?_ _) | (with_reducible refine Below.trans ?_ (Below.mono hw1 ?_)) | (with_reducible exact hw1.size) | omega | (simp <;> omega) | (simp <;> (have s := hw1.size; omega)))
  have u := (uB_iff x h3).1 hu
  rw [hu] at c1
  have c2 : ∀ W : World, Calls Try.prog 57 #[.agg #[.int .i64 x.b, .int .i64 x.c, .int .i64 x.d, .int .i64 x.a, .int .i64 x.n]] W fun e' w' => e' = .returned (.tuple #[.agg #[.int .i64 r.a, .int .i64 r.b, .int .i64 r.c, .int .i64 r.d, .int .i64 r.n], .int .i64 er]) ∧ Below W.heap.size W w' := fun W => by
    rcases h with ⟨_, _, h1, rfl, rfl⟩ | ⟨_, _, h1, rfl, rfl⟩ | h
    · exact unit_ok _ _ (U.in u (by omega)) h1
    · exact unit_large _ _ (U.in u (by omega)) h1
    · exact absurd ⟨u, h4⟩ h.1
  clear h hu u
  go_enter Try.func23, Try.ntmps23
  go_wp2_with (first | ((with_reducible refine (c1 _).mono ?_); rintro e w1 ⟨rfl, hw1⟩; have hc := Tail.cells hw1; have zw10 := Nat.lt_of_lt_of_le (n := w.heap.size) (by simp <;> omega) hw1.size; have zw11 := Nat.lt_of_lt_of_le (n := w.heap.size + 1) (by simp <;> omega) hw1.size; have kw1a0 : w1.cell? ⟨w.heap.size, 0, none⟩ = some (.int .i64 0) := (hc.1 _ _ (by simp <;> omega)).trans (by simp [go_sem]); have kw1a1 : w1.cell? ⟨w.heap.size, 1, none⟩ = some (.int .i64 0) := (hc.1 _ _ (by simp <;> omega)).trans (by simp [go_sem]); have kw1a2 : w1.cell? ⟨w.heap.size, 2, none⟩ = some (.int .i64 0) := (hc.1 _ _ (by simp <;> omega)).trans (by simp [go_sem]); have kw1a3 : w1.cell? ⟨w.heap.size, 3, none⟩ = some (.int .i64 0) := (hc.1 _ _ (by simp <;> omega)).trans (by simp [go_sem]); have kw1a4 : w1.cell? ⟨w.heap.size, 4, none⟩ = some (.int .i64 0) := (hc.1 _ _ (by simp <;> omega)).trans (by simp [go_sem])) | ((with_reducible refine (c2 _).mono ?_); rintro e w2 ⟨rfl, hw2⟩; have hc2 := Tail.cells hw2; have z2 := Nat.lt_of_lt_of_le zw11 hw2.size))
  refine bodyPost_ret (v := .tuple #[.agg #[.int .i64 r.a, .int .i64 r.b, .int .i64 r.c, .int .i64 r.d, .int .i64 r.n], .int .i64 er]) ?_ rfl ⟨rfl, ?_⟩
  · simp [results, Try.results23, go_sem, hc, hc2, zw10, zw11, z2, kw1a0, kw1a1, kw1a2, kw1a3, kw1a4]
  · repeat (first | (with_reducible exact Below.refl _ _) | (with_reducible refine Below.setCell ?_ ?_ _) | (with_reducible refine Below.drew ?_) | (with_reducible refine Below.alloc ?_ ?_ _) | (with_reducible refine Below.trans ?_ (Below.mono hw2 ?_)) | (with_reducible refine Below.trans ?_ (Below.mono hw1 ?_)) | (with_reducible exact hw2.size) | (with_reducible exact hw1.size) | omega | (simp <;> omega) | (simp <;> (have s := hw2.size; omega)) | (simp <;> (have s := hw1.size; omega)))

set_option maxRecDepth 100000 in
set_option maxHeartbeats 2000000 in
theorem refOf_any (x r : Q) (er : Int) (w : World) (h : ofR x r er) : Calls Try.prog 24 #[.int .i64 x.a, .int .i64 x.b, .int .i64 x.c, .int .i64 x.d, .int .i64 x.n] w fun e w' => e = .returned (.tuple #[.agg #[.int .i64 r.a, .int .i64 r.b, .int .i64 r.c, .int .i64 r.d, .int .i64 r.n], .int .i64 er]) ∧ Below w.heap.size w w' := by
  have bad : ¬ (U x ∧ x.n ≤ 1073741824) → r = zero ∧ er = 1 := fun hn => by
    rcases h with h | h | h
    · exact absurd ⟨h.1, h.2.1⟩ hn
    · exact absurd ⟨h.1, h.2.1⟩ hn
    · exact h.2
  cases e0 : inB x.n 1 1073741824
  · obtain ⟨rfl, rfl⟩ := bad (fun hh => by rw [inB_iff2.2 ⟨by have := hh.1.pos; omega, hh.2⟩] at e0; cases e0)
    clear h bad
    go_enter Try.func24, Try.ntmps24
    go_wp2_with (go_at_call 61; refine (within_any _ _ _ _).mono ?_; rintro e w1 ⟨rfl, rfl⟩)
    refine bodyPost_ret (v := .tuple #[.agg #[.int .i64 zero.a, .int .i64 zero.b, .int .i64 zero.c, .int .i64 zero.d, .int .i64 zero.n], .int .i64 1]) ?_ rfl ⟨rfl, ?_⟩
    · simp [results, Try.results24, go_sem, zero]
    · repeat (first | (with_reducible exact Below.refl _ _) | (with_reducible refine Below.setCell ?_ ?_ _) | (with_reducible refine Below.drew ?_) | (with_reducible refine Below.alloc ?_ ?_ _) | omega | (simp <;> omega))
  have b0 := inB_iff2.1 e0
  obtain ⟨b01, b02⟩ := b0
  cases e1 : inB x.a (-x.n) x.n
  · obtain ⟨rfl, rfl⟩ := bad (fun hh => by rw [inB_iff2.2 ⟨(part_le x hh.1).1, (part_le x hh.1).2.1⟩] at e1; cases e1)
    clear h bad
    go_enter Try.func24, Try.ntmps24
    go_wp2_with (go_at_call 61; refine (within_any _ _ _ _).mono ?_; rintro e w1 ⟨rfl, rfl⟩)
    refine bodyPost_ret (v := .tuple #[.agg #[.int .i64 zero.a, .int .i64 zero.b, .int .i64 zero.c, .int .i64 zero.d, .int .i64 zero.n], .int .i64 1]) ?_ rfl ⟨rfl, ?_⟩
    · simp [results, Try.results24, go_sem, zero]
    · repeat (first | (with_reducible exact Below.refl _ _) | (with_reducible refine Below.setCell ?_ ?_ _) | (with_reducible refine Below.drew ?_) | (with_reducible refine Below.alloc ?_ ?_ _) | omega | (simp <;> omega))
  cases e2 : inB x.b (-x.n) x.n
  · obtain ⟨rfl, rfl⟩ := bad (fun hh => by rw [inB_iff2.2 ⟨(part_le x hh.1).2.2.1, (part_le x hh.1).2.2.2.1⟩] at e2; cases e2)
    clear h bad
    go_enter Try.func24, Try.ntmps24
    go_wp2_with (go_at_call 61; refine (within_any _ _ _ _).mono ?_; rintro e w1 ⟨rfl, rfl⟩)
    refine bodyPost_ret (v := .tuple #[.agg #[.int .i64 zero.a, .int .i64 zero.b, .int .i64 zero.c, .int .i64 zero.d, .int .i64 zero.n], .int .i64 1]) ?_ rfl ⟨rfl, ?_⟩
    · simp [results, Try.results24, go_sem, zero]
    · repeat (first | (with_reducible exact Below.refl _ _) | (with_reducible refine Below.setCell ?_ ?_ _) | (with_reducible refine Below.drew ?_) | (with_reducible refine Below.alloc ?_ ?_ _) | omega | (simp <;> omega))
  cases e3 : inB x.c (-x.n) x.n
  · obtain ⟨rfl, rfl⟩ := bad (fun hh => by rw [inB_iff2.2 ⟨(part_le x hh.1).2.2.2.2.1, (part_le x hh.1).2.2.2.2.2.1⟩] at e3; cases e3)
    clear h bad
    go_enter Try.func24, Try.ntmps24
    go_wp2_with (go_at_call 61; refine (within_any _ _ _ _).mono ?_; rintro e w1 ⟨rfl, rfl⟩)
    refine bodyPost_ret (v := .tuple #[.agg #[.int .i64 zero.a, .int .i64 zero.b, .int .i64 zero.c, .int .i64 zero.d, .int .i64 zero.n], .int .i64 1]) ?_ rfl ⟨rfl, ?_⟩
    · simp [results, Try.results24, go_sem, zero]
    · repeat (first | (with_reducible exact Below.refl _ _) | (with_reducible refine Below.setCell ?_ ?_ _) | (with_reducible refine Below.drew ?_) | (with_reducible refine Below.alloc ?_ ?_ _) | omega | (simp <;> omega))
  cases e4 : inB x.d (-x.n) x.n
  · obtain ⟨rfl, rfl⟩ := bad (fun hh => by rw [inB_iff2.2 ⟨(part_le x hh.1).2.2.2.2.2.2.1, (part_le x hh.1).2.2.2.2.2.2.2⟩] at e4; cases e4)
    clear h bad
    go_enter Try.func24, Try.ntmps24
    go_wp2_with (go_at_call 61; refine (within_any _ _ _ _).mono ?_; rintro e w1 ⟨rfl, rfl⟩)
    refine bodyPost_ret (v := .tuple #[.agg #[.int .i64 zero.a, .int .i64 zero.b, .int .i64 zero.c, .int .i64 zero.d, .int .i64 zero.n], .int .i64 1]) ?_ rfl ⟨rfl, ?_⟩
    · simp [results, Try.results24, go_sem, zero]
    · repeat (first | (with_reducible exact Below.refl _ _) | (with_reducible refine Below.setCell ?_ ?_ _) | (with_reducible refine Below.drew ?_) | (with_reducible refine Below.alloc ?_ ?_ _) | omega | (simp <;> omega))
  have b1 := inB_iff2.1 e1
  have b2 := inB_iff2.1 e2
  have b3 := inB_iff2.1 e3
  have b4 := inB_iff2.1 e4
  have hs : Small2 x x := Small2.of (X := 1073741824) (Y := 1073741824) (by omega) (by omega) (by rintro p (rfl | rfl | rfl | rfl | rfl) <;> omega) (by rintro p (rfl | rfl | rfl | rfl | rfl) <;> omega)
  obtain ⟨pa1, pa2⟩ := hs.h x.a x.a (by simp) (by simp)
  obtain ⟨pb1, pb2⟩ := hs.h x.b x.b (by simp) (by simp)
  obtain ⟨pc1, pc2⟩ := hs.h x.c x.c (by simp) (by simp)
  obtain ⟨pd1, pd2⟩ := hs.h x.d x.d (by simp) (by simp)
  obtain ⟨pn1, pn2⟩ := hs.h x.n x.n (by simp) (by simp)
  by_cases hq : x.a * x.a + x.b * x.b + x.c * x.c + x.d * x.d = x.n * x.n
  · have q1 : (x.a * x.a + x.b * x.b + x.c * x.c + x.d * x.d == x.n * x.n) = true := by simpa using hq
    have q2 : (x.a * x.a + x.b * x.b + x.c * x.c + x.d * x.d != x.n * x.n) = false := by simpa using hq
    have u : U x := ⟨by omega, hq⟩
    have c2 : ∀ W : World, Calls Try.prog 63 #[.agg #[.int .i64 x.a, .int .i64 x.b, .int .i64 x.c, .int .i64 x.d, .int .i64 x.n]] W fun e' w' => e' = .returned (.tuple #[.agg #[.int .i64 r.a, .int .i64 r.b, .int .i64 r.c, .int .i64 r.d, .int .i64 r.n], .int .i64 er]) ∧ Below W.heap.size W w' := fun W => by
      rcases h with ⟨_, _, h1, rfl, rfl⟩ | ⟨_, _, h1, rfl, rfl⟩ | h
      · exact lowest_ok _ _ (U.in u (by omega)) h1
      · exact lowest_large _ _ (U.in u (by omega)) h1
      · exact absurd ⟨u, by omega⟩ h.1
    clear h hs hq u bad b1 b2 b3 b4
    go_enter Try.func24, Try.ntmps24
    go_wp2_with (first | ((with_reducible refine (c2 _).mono ?_); rintro e w2 ⟨rfl, hw2⟩; have hc2 := Tail.cells hw2; have zw20 := Nat.lt_of_lt_of_le (n := w.heap.size) (by simp <;> omega) hw2.size) | (go_at_call 61; refine (within_any _ _ _ _).mono ?_; rintro e w1 ⟨rfl, rfl⟩))
    refine bodyPost_ret (v := .tuple #[.agg #[.int .i64 r.a, .int .i64 r.b, .int .i64 r.c, .int .i64 r.d, .int .i64 r.n], .int .i64 er]) ?_ rfl ⟨rfl, ?_⟩
    · simp [results, Try.results24, go_sem, hc2, zw20]
    · repeat (first | (with_reducible exact Below.refl _ _) | (with_reducible refine Below.setCell ?_ ?_ _) | (with_reducible refine Below.drew ?_) | (with_reducible refine Below.alloc ?_ ?_ _) | (with_reducible refine Below.trans ?_ (Below.mono hw2 ?_)) | (with_reducible exact hw2.size) | omega | (simp <;> omega) | (simp <;> (have s := hw2.size; omega)))
  · obtain ⟨rfl, rfl⟩ := bad (fun hh => hq hh.1.len)
    have q1 : (x.a * x.a + x.b * x.b + x.c * x.c + x.d * x.d == x.n * x.n) = false := by simpa using hq
    have q2 : (x.a * x.a + x.b * x.b + x.c * x.c + x.d * x.d != x.n * x.n) = true := by simpa using hq
    clear h hs hq bad b1 b2 b3 b4
    go_enter Try.func24, Try.ntmps24
    go_wp2_with (go_at_call 61; refine (within_any _ _ _ _).mono ?_; rintro e w1 ⟨rfl, rfl⟩)
    refine bodyPost_ret (v := .tuple #[.agg #[.int .i64 zero.a, .int .i64 zero.b, .int .i64 zero.c, .int .i64 zero.d, .int .i64 zero.n], .int .i64 1]) ?_ rfl ⟨rfl, ?_⟩
    · simp [results, Try.results24, go_sem, zero]
    · repeat (first | (with_reducible exact Below.refl _ _) | (with_reducible refine Below.setCell ?_ ?_ _) | (with_reducible refine Below.drew ?_) | (with_reducible refine Below.alloc ?_ ?_ _) | omega | (simp <;> omega))

theorem ofR_cases (x : Q) : ∃ (r : Q) (er : Int), ofR x r er ∧ ((V r ∧ er = 0) ∨ er = 3 ∨ er = 1) := by
  by_cases h : U x ∧ x.n ≤ 1073741824
  · by_cases hl : (low x).n ≤ 1048576
    · exact ⟨low x, 0, .inl ⟨h.1, h.2, hl, rfl, rfl⟩, .inl ⟨V.of_low h.1 hl, rfl⟩⟩
    · exact ⟨zero, 3, .inr (.inl ⟨h.1, h.2, by omega, rfl, rfl⟩), .inr (.inl rfl)⟩
  · exact ⟨zero, 1, .inr (.inr ⟨h, rfl, rfl⟩), .inr (.inr rfl)⟩

set_option maxRecDepth 100000 in
set_option maxHeartbeats 1600000 in
theorem quatOf_walk (x : Q) (w : World) : Calls Try.prog 4 #[.agg #[.int .i64 x.a, .int .i64 x.b, .int .i64 x.c, .int .i64 x.d, .int .i64 x.n]] w fun e w' => e = .returned (.bool true) ∧ Below w.heap.size w w' := by
  have kn := known_any
  obtain ⟨r, er, ho, hc⟩ := ofR_cases x
  have o1 := fun W : World => of_any x r er W ho
  have o2 := fun W : World => refOf_any x r er W ho
  clear ho
  rcases hc with ⟨hv, rfl⟩ | rfl | rfl
  · have v1 := fun W : World => validate_ok r W hv
    clear hv
    go_enter Try.func4, Try.ntmps4
    go_wp2_with (first | ((with_reducible refine (o1 _).mono ?_); rintro e w1 ⟨rfl, hw1⟩; have hc1 := Tail.cells hw1; have s1 := hw1.size; (try simp at s1); (try have z1_0 : w.heap.size < w1.heap.size := (by omega)); clear s1) | ((with_reducible refine (o2 _).mono ?_); rintro e w2 ⟨rfl, hw2⟩; have hc2 := Tail.cells hw2; have s2 := hw2.size; (try simp at s2); (try have z2_0 : w.heap.size < w2.heap.size := (by omega)); (try have z2_1 : w1.heap.size < w2.heap.size := (by omega)); clear s2) | ((with_reducible refine (v1 _).mono ?_); rintro e w3 ⟨rfl, hw3⟩; have hc3 := Tail.cells hw3; have s3 := hw3.size; (try simp at s3); (try have z3_0 : w.heap.size < w3.heap.size := (by omega)); (try have z3_1 : w1.heap.size < w3.heap.size := (by omega)); (try have z3_2 : w2.heap.size < w3.heap.size := (by omega)); clear s3) | ((with_reducible refine (kn _).mono ?_); rintro e w4 ⟨rfl, hw4⟩; have hc4 := Tail.cells hw4; have s4 := hw4.size; (try simp at s4); (try have z4_0 : w.heap.size < w4.heap.size := (by omega)); (try have z4_1 : w1.heap.size < w4.heap.size := (by omega)); (try have z4_2 : w2.heap.size < w4.heap.size := (by omega)); (try have z4_3 : w3.heap.size < w4.heap.size := (by omega)); clear s4))
    go_ret
    exact ⟨rfl, by repeat (first | (with_reducible exact Below.refl _ _) | (with_reducible refine Below.setCell ?_ ?_ _) | (with_reducible refine Below.drew ?_) | (with_reducible refine Below.alloc ?_ ?_ _) | (with_reducible refine Below.trans ?_ (Below.mono hw4 ?_)) | (with_reducible refine Below.trans ?_ (Below.mono hw3 ?_)) | (with_reducible refine Below.trans ?_ (Below.mono hw2 ?_)) | (with_reducible refine Below.trans ?_ (Below.mono hw1 ?_)) | (with_reducible exact hw4.size) | (with_reducible exact hw3.size) | (with_reducible exact hw2.size) | (with_reducible exact hw1.size) | omega | (simp <;> omega) | (simp <;> (have s := hw4.size; omega)) | (simp <;> (have s := hw3.size; omega)) | (simp <;> (have s := hw2.size; omega)) | (simp <;> (have s := hw1.size; omega)))⟩
  · go_enter Try.func4, Try.ntmps4
    go_wp2_with (first | ((with_reducible refine (o1 _).mono ?_); rintro e w1 ⟨rfl, hw1⟩; have hc1 := Tail.cells hw1; have s1 := hw1.size; (try simp at s1); (try have z1_0 : w.heap.size < w1.heap.size := (by omega)); clear s1) | ((with_reducible refine (o2 _).mono ?_); rintro e w2 ⟨rfl, hw2⟩; have hc2 := Tail.cells hw2; have s2 := hw2.size; (try simp at s2); (try have z2_0 : w.heap.size < w2.heap.size := (by omega)); (try have z2_1 : w1.heap.size < w2.heap.size := (by omega)); clear s2) | ((with_reducible refine (kn _).mono ?_); rintro e w3 ⟨rfl, hw3⟩; have hc3 := Tail.cells hw3; have s3 := hw3.size; (try simp at s3); (try have z3_0 : w.heap.size < w3.heap.size := (by omega)); (try have z3_1 : w1.heap.size < w3.heap.size := (by omega)); (try have z3_2 : w2.heap.size < w3.heap.size := (by omega)); clear s3))
    go_ret
    exact ⟨rfl, by repeat (first | (with_reducible exact Below.refl _ _) | (with_reducible refine Below.setCell ?_ ?_ _) | (with_reducible refine Below.drew ?_) | (with_reducible refine Below.alloc ?_ ?_ _) | (with_reducible refine Below.trans ?_ (Below.mono hw3 ?_)) | (with_reducible refine Below.trans ?_ (Below.mono hw2 ?_)) | (with_reducible refine Below.trans ?_ (Below.mono hw1 ?_)) | (with_reducible exact hw3.size) | (with_reducible exact hw2.size) | (with_reducible exact hw1.size) | omega | (simp <;> omega) | (simp <;> (have s := hw3.size; omega)) | (simp <;> (have s := hw2.size; omega)) | (simp <;> (have s := hw1.size; omega)))⟩
  · go_enter Try.func4, Try.ntmps4
    go_wp2_with (first | ((with_reducible refine (o1 _).mono ?_); rintro e w1 ⟨rfl, hw1⟩; have hc1 := Tail.cells hw1; have s1 := hw1.size; (try simp at s1); (try have z1_0 : w.heap.size < w1.heap.size := (by omega)); clear s1) | ((with_reducible refine (o2 _).mono ?_); rintro e w2 ⟨rfl, hw2⟩; have hc2 := Tail.cells hw2; have s2 := hw2.size; (try simp at s2); (try have z2_0 : w.heap.size < w2.heap.size := (by omega)); (try have z2_1 : w1.heap.size < w2.heap.size := (by omega)); clear s2) | ((with_reducible refine (kn _).mono ?_); rintro e w3 ⟨rfl, hw3⟩; have hc3 := Tail.cells hw3; have s3 := hw3.size; (try simp at s3); (try have z3_0 : w.heap.size < w3.heap.size := (by omega)); (try have z3_1 : w1.heap.size < w3.heap.size := (by omega)); (try have z3_2 : w2.heap.size < w3.heap.size := (by omega)); clear s3))
    go_ret
    exact ⟨rfl, by repeat (first | (with_reducible exact Below.refl _ _) | (with_reducible refine Below.setCell ?_ ?_ _) | (with_reducible refine Below.drew ?_) | (with_reducible refine Below.alloc ?_ ?_ _) | (with_reducible refine Below.trans ?_ (Below.mono hw3 ?_)) | (with_reducible refine Below.trans ?_ (Below.mono hw2 ?_)) | (with_reducible refine Below.trans ?_ (Below.mono hw1 ?_)) | (with_reducible exact hw3.size) | (with_reducible exact hw2.size) | (with_reducible exact hw1.size) | omega | (simp <;> omega) | (simp <;> (have s := hw3.size; omega)) | (simp <;> (have s := hw2.size; omega)) | (simp <;> (have s := hw1.size; omega)))⟩

/-! ### The statement of the law QuatOf, out of its walk -/
set_option maxRecDepth 100000 in
theorem quatOf_lifted (os : Os) (started : os.Started) (H : Type) (enc : TypeId × Value → H) :
    ReturnsInHanded {} Try.checked os 4 .any (Rows.quatOfSpec.pre6 enc Try.prog Try.f4 Rows.quatOfRow.domain false) (Rows.quatOfSpec.post enc Try.prog Try.f4 false true false false) := by
  refine returnsInHanded_of_change (C := Try.checked) own started (by kernel_rfl) Try.func4
    (ChangeSpec.witness6 (enc := enc) (C := Try.checked) false ⟨#[], #[.agg #[.int .i64 0, .int .i64 0, .int .i64 0, .int .i64 0, .int .i64 0]], []⟩ 8 (by kernel_rfl) (by kernel_rfl) (by kernel_rfl) (by kernel_rfl)) ?_
  intro W base args ds gs before hval0 hW hcnd _
  have hval : ∀ (j : Nat) t v, Try.f4.params[j]? = some t → args[j]? = some v → Value.okWide Try.prog W .any base t v := hval0
  have hW' := hW
  obtain ⟨p, q, hA0, hV, rfl, hfz, hnd⟩ := hW
  have hA : DataW.TrodAll enc Try.prog W 0 (fun _ => true) true Try.f4.params.toList args.toList ds p := hA0
  rw [Try.params4] at hA hval
  obtain ⟨v0, vs0, d0, ds0, p0, q0, hargs, rfl, rfl, h0, r0⟩ := trodAll_cons hA
  obtain ⟨rfl, rfl, rfl⟩ := trodAll_nil r0
  obtain rfl : args = #[v0] := by cases args; simp_all
  obtain ⟨rfl, rfl⟩ := trodVars_none hV
  have k0 := h0
  have lt0 : ∀ x ∈ p0, x.block < W.heap.size := by obtain ⟨m, hm⟩ := k0; exact DataW.trod_lt m _ _ _ hm
  obtain ⟨x0, rfl⟩ := open_unit (hval 0 23 v0 rfl rfl) h0
  clear hA0 hval0
  refine (quatOf_walk x0 W).mono fun e W' ⟨he, bel⟩ => ?_
  subst he
  exact ⟨_, rfl, _, _, _, [], _, [], hW', trodAll_mk1 (shut_bool Try.underlying4 _), (trodAll_cons_mk (Below.trod laidOut (by kernel_rfl) (of_decide_eq_true (by kernel_rfl)) k0 bel lt0) trodAll_mk0), rfl, bel.frame _, fun h => by cases h⟩

theorem quatOf_over : Rows.quatOfRow.holds Try.pinned (OpenSpec.ofChange Rows.quatOfSpec) :=
  OpenClaim.holds_of_wide 4 Try.f4 rfl rfl rfl rfl rfl rfl rfl ⟨rfl, rfl, rfl, rfl, rfl⟩ rfl rfl rfl rfl rfl (by kernel_rfl) Try.func4 (by kernel_rfl)
    (of_decide_eq_true (by kernel_rfl)) (by unfold Func.isWrapper; first | (rw [if_pos (by decide +kernel)]; kernel_rfl) | (rw [if_neg (by decide +kernel)]; exact ⟨rfl, rfl⟩))
    (fun os started H enc _ => quatOf_lifted os started H enc)

theorem quatOf_holds : Rows.QuatOfSaid := quatOf_over
#print axioms quatOf_holds

end Go.Proofs.Ytecoemdpfpdeoaa
