/- The greatest common divisor of the five parts, lowest terms, and rational numbers, as the program and the document's answers make them.
Conditions: the bounds written at each theorem. -/
import Derived.Test.YthloceljgmmdbaaLeaf
import Derived.Test.YthloceljgmmdbaaGcd
namespace Go.Proofs.Ythloceljgmmdbaa
set_option linter.unusedVariables false
set_option linter.unusedSimpArgs false
open Go.RowKit
open Um

theorem gc_dvd_left (m n : Int) (hm : m ≠ 0) : gc m n ≤ m.natAbs := by
  unfold gc
  have := Nat.gcd_le_left n.natAbs (show 0 < m.natAbs by omega)
  omega
theorem gc_nonneg (m n : Int) : 0 ≤ gc m n := by unfold gc; omega
theorem gc_gc (m n k : Int) : gc (gc m n) k = (Nat.gcd (Nat.gcd m.natAbs n.natAbs) k.natAbs : Int) := by simp [gc]
theorem g_eq (x : Q) : (g x : Int) = gc (gc (gc (gc x.a x.b) x.c) x.d) x.n := by simp [gc, g]
theorem g_eq' (x : Q) : (g x : Int) = gc (gc (gc (gc x.n x.a) x.b) x.c) x.d := by
  simp only [gc, g, Int.natAbs_natCast]
  simp only [Nat.gcd_comm, Nat.gcd_left_comm]
def gAt (x : Q) : Nat → Int
  | 0 => x.n
  | 1 => gc x.n x.a
  | 2 => gc (gc x.n x.a) x.b
  | 3 => gc (gc (gc x.n x.a) x.b) x.c
  | _ => gc (gc (gc (gc x.n x.a) x.b) x.c) x.d
theorem gAt_range (x : Q) (k : Nat) (hn : 0 < x.n) : 0 ≤ gAt x k ∧ gAt x k ≤ x.n := by
  have key : ∀ p q : Int, 0 < p → 0 < gc p q ∧ gc p q ≤ p := by
    intro p q hp
    have h1 := gc_dvd_left p q (by omega)
    have h2 := gc_nonneg p q
    have h3 : gc p q ≠ 0 := by
      unfold gc
      have := Nat.gcd_pos_of_pos_left q.natAbs (show 0 < p.natAbs by omega)
      omega
    omega
  have k1 := key x.n x.a hn
  have k2 := key (gc x.n x.a) x.b k1.1
  have k3 := key (gc (gc x.n x.a) x.b) x.c k2.1
  have k4 := key (gc (gc (gc x.n x.a) x.b) x.c) x.d k3.1
  unfold gAt
  split <;> omega

/-- each part lies within a bound -/
structure In (x : Q) (m : Int) : Prop where
  a : -m ≤ x.a ∧ x.a ≤ m
  b : -m ≤ x.b ∧ x.b ≤ m
  c : -m ≤ x.c ∧ x.c ≤ m
  d : -m ≤ x.d ∧ x.d ≤ m
  n : 0 < x.n ∧ x.n ≤ m

theorem gc_fit (m n : Int) (hm : -9223372036854775807 ≤ m ∧ m ≤ 9223372036854775807) (hn : -9223372036854775807 ≤ n ∧ n ≤ 9223372036854775807) : -9223372036854775807 ≤ gc m n ∧ gc m n ≤ 9223372036854775807 := by
  have h0 := gc_nonneg m n
  by_cases h : m = 0
  · subst h
    have : gc 0 n = n.natAbs := by simp [gc]
    omega
  · have := gc_dvd_left m n h
    omega

theorem low_parts (x : Q) : x.a.tdiv (g x) = (low x).a ∧ x.b.tdiv (g x) = (low x).b ∧ x.c.tdiv (g x) = (low x).c ∧ x.d.tdiv (g x) = (low x).d := by
  have h := g_dvd x
  exact ⟨Int.tdiv_eq_ediv_of_dvd h.1, Int.tdiv_eq_ediv_of_dvd h.2.1, Int.tdiv_eq_ediv_of_dvd h.2.2.1, Int.tdiv_eq_ediv_of_dvd h.2.2.2.1⟩
theorem low_n (x : Q) : x.n / (g x : Int) = (low x).n := rfl

theorem In.le {x : Q} {m : Int} (h : In x m) {k : Int} (hk : m ≤ k) : In x k :=
  ⟨⟨by have := h.a; omega, by have := h.a; omega⟩, ⟨by have := h.b; omega, by have := h.b; omega⟩, ⟨by have := h.c; omega, by have := h.c; omega⟩, ⟨by have := h.d; omega, by have := h.d; omega⟩, ⟨h.n.1, by have := h.n; omega⟩⟩

theorem low_range (x : Q) : (-(x.a.natAbs : Int) ≤ (low x).a ∧ (low x).a ≤ x.a.natAbs) ∧ (-(x.b.natAbs : Int) ≤ (low x).b ∧ (low x).b ≤ x.b.natAbs) ∧ (-(x.c.natAbs : Int) ≤ (low x).c ∧ (low x).c ≤ x.c.natAbs) ∧ (-(x.d.natAbs : Int) ≤ (low x).d ∧ (low x).d ≤ x.d.natAbs) := by
  have hp := low_parts x
  have key : ∀ p : Int, -(p.natAbs : Int) ≤ p.tdiv (g x) ∧ p.tdiv (g x) ≤ p.natAbs := by
    intro p
    have h1 : (p.tdiv (g x)).natAbs ≤ p.natAbs := by rw [Int.natAbs_tdiv]; exact Nat.div_le_self _ _
    omega
  rw [← hp.1, ← hp.2.1, ← hp.2.2.1, ← hp.2.2.2]
  exact ⟨key _, key _, key _, key _⟩
theorem low_in (x : Q) {m : Int} (h : In x m) : In (low x) m := by
  have hr := low_range x
  have hn := low_pos x h.n.1
  have hl := low_le x h.n.1
  have ha := h.a; have hb := h.b; have hc := h.c; have hd := h.d; have hm := h.n
  exact ⟨by omega, by omega, by omega, by omega, by omega⟩
theorem low_wraps (x : Q) (h : In x 4611686018427387904) : IntKind.i64.wrap (x.a.tdiv (g x)) = (low x).a ∧ IntKind.i64.wrap (x.b.tdiv (g x)) = (low x).b ∧ IntKind.i64.wrap (x.c.tdiv (g x)) = (low x).c ∧ IntKind.i64.wrap (x.d.tdiv (g x)) = (low x).d ∧ IntKind.i64.wrap (x.n.tdiv (g x)) = (low x).n := by
  have hl := low_in x h
  have hp := low_parts x
  have hn : x.n.tdiv (g x) = (low x).n := Int.tdiv_eq_ediv_of_dvd (g_dvd x).2.2.2.2
  obtain ⟨⟨ha1, ha2⟩, ⟨hb1, hb2⟩, ⟨hc1, hc2⟩, ⟨hd1, hd2⟩, hn1, hn2⟩ := hl
  rw [hp.1, hp.2.1, hp.2.2.1, hp.2.2.2, hn]
  exact ⟨IntWalk.i64_in _ (by omega), IntWalk.i64_in _ (by omega), IntWalk.i64_in _ (by omega), IntWalk.i64_in _ (by omega), IntWalk.i64_in _ (by omega)⟩

end Go.Proofs.Ythloceljgmmdbaa
