/- Which fields are valid, as the program and the document's answers find it.
Conditions: the list lies in memory as it is written at each theorem. -/
import Derived.Test.YthloceljgmmdbaaTorA
import Derived.Test.YthloceljgmmdbaaRows5
namespace Go.Proofs.Ythloceljgmmdbaa
set_option linter.unusedVariables false
set_option linter.unusedSimpArgs false
set_option maxRecDepth 1000000
open Go.RowKit
open Um Tm

/-- the error of a unit as a link -/
def LinkR (x : Q) (r : Int) : Prop := (¬ V x ∧ r = 1) ∨ (V x ∧ 5 < x.n ∧ r = 3) ∨ (V x ∧ x.n ≤ 5 ∧ r = 0)
theorem LinkR.ex (x : Q) : ∃ r, LinkR x r := by
  by_cases h : V x
  · by_cases h5 : 5 < x.n
    · exact ⟨3, .inr (.inl ⟨h, h5, rfl⟩)⟩
    · exact ⟨0, .inr (.inr ⟨h, by omega, rfl⟩)⟩
  · exact ⟨1, .inl ⟨h, rfl⟩⟩
theorem LinkR.one {x : Q} {r s : Int} (h : LinkR x r) (k : LinkR x s) : r = s := by
  rcases h with ⟨a, rfl⟩ | ⟨a, b, rfl⟩ | ⟨a, b, rfl⟩ <;> rcases k with ⟨c, rfl⟩ | ⟨c, d, rfl⟩ | ⟨c, d, rfl⟩
  · rfl
  · exact absurd c a
  · exact absurd c a
  · exact absurd a c
  · rfl
  · omega
  · exact absurd a c
  · omega
  · rfl
def LinksR (L : List Q) (r : Int) : Prop := ((∀ (i : Nat) (x : Q), L[i]? = some x → LinkR x 0) ∧ r = 0) ∨ ∃ (k : Nat) (x : Q), L[k]? = some x ∧ LinkR x r ∧ r ≠ 0 ∧ ∀ (i : Nat) (y : Q), i < k → L[i]? = some y → LinkR y 0
theorem links_at {L : List Q} {r : Int} (h : LinksR L r) {k : Nat} (hall : ∀ (i : Nat) (y : Q), i < k → L[i]? = some y → LinkR y 0) (hk : k < L.length) : LinkR L[k] 0 ∨ (LinkR L[k] r ∧ r ≠ 0) := by
  have hx : L[k]? = some L[k] := List.getElem?_eq_getElem hk
  rcases h with ⟨h, _⟩ | ⟨j, x, hj, hr, h0, hb⟩
  · exact .inl (h k _ hx)
  · rcases Nat.lt_trichotomy j k with hlt | he | hlt
    · exact absurd (hr.one (hall j x hlt hj)) h0
    · subst he
      rw [hx] at hj
      simp only [Option.some.injEq] at hj
      rw [hj]
      exact .inr ⟨hr, h0⟩
    · exact .inl (hb k _ hlt hx)
theorem links_end {L : List Q} {r : Int} (h : LinksR L r) (hall : ∀ (i : Nat) (y : Q), i < L.length → L[i]? = some y → LinkR y 0) : r = 0 := by
  rcases h with ⟨_, h⟩ | ⟨j, x, hj, hr, h0, _⟩
  · exact h
  · exact absurd (hr.one (hall j x (List.getElem?_eq_some_iff.1 hj).1 hj)) h0
theorem LinksR.ex (L : List Q) : ∃ r, LinksR L r := by
  have key : ∀ n : Nat, n ≤ L.length → (∀ (i : Nat) (y : Q), i < n → L[i]? = some y → LinkR y 0) ∨ ∃ (k : Nat) (x : Q) (r : Int), L[k]? = some x ∧ LinkR x r ∧ r ≠ 0 ∧ ∀ (i : Nat) (y : Q), i < k → L[i]? = some y → LinkR y 0 := by
    intro n
    induction n with
    | zero => intro _; exact .inl fun i y h => by omega
    | succ n ih =>
      intro hn
      rcases ih (by omega) with h | h
      · obtain ⟨r, hr⟩ := LinkR.ex (L[n]'(by omega))
        by_cases h0 : r = 0
        · subst h0
          refine .inl fun i y hi hy => ?_
          by_cases he : i < n
          · exact h i y he hy
          · obtain rfl : i = n := by omega
            rw [List.getElem?_eq_getElem (by omega)] at hy
            simp only [Option.some.injEq] at hy
            rw [← hy]
            exact hr
        · exact .inr ⟨n, _, r, List.getElem?_eq_getElem (by omega), hr, h0, h⟩
      · exact .inr h
  rcases key L.length (Nat.le_refl _) with h | ⟨k, x, r, h1, h2, h3, h4⟩
  · exact ⟨0, .inl ⟨fun i x hx => h i x (List.getElem?_eq_some_iff.1 hx).1 hx, rfl⟩⟩
  · exact ⟨r, .inr ⟨k, x, h1, h2, h3, h4⟩⟩
/-- the error of a field -/
def fldR (a b c : Int) (L : List Q) (r : Int) : Prop := (¬ Sz a b c ∧ r = 1) ∨ (Sz a b c ∧ ¬ (L.length : Int) = 3 * (a * b * c) ∧ r = 1) ∨ (Sz a b c ∧ (L.length : Int) = 3 * (a * b * c) ∧ LinksR L r)
theorem fldR_ex (a b c : Int) (L : List Q) : ∃ r, fldR a b c L r := by
  by_cases h : Sz a b c
  · by_cases hn : (L.length : Int) = 3 * (a * b * c)
    · obtain ⟨r, hr⟩ := LinksR.ex L
      exact ⟨r, .inr (.inr ⟨h, hn, hr⟩)⟩
    · exact ⟨1, .inr (.inl ⟨h, hn, rfl⟩)⟩
  · exact ⟨1, .inl ⟨h, rfl⟩⟩
theorem fldR_ok {a b c : Int} {L : List Q} (h : fldR a b c L 0) : Sz a b c ∧ (L.length : Int) = 3 * (a * b * c) ∧ ∀ (i : Nat) (x : Q), L[i]? = some x → V x ∧ x.n ≤ 5 := by
  rcases h with ⟨_, h⟩ | ⟨_, _, h⟩ | ⟨hz, hn, hr⟩
  · exact absurd h (by decide)
  · exact absurd h (by decide)
  · refine ⟨hz, hn, fun i x hx => ?_⟩
    rcases hr with ⟨h, _⟩ | ⟨_, _, _, _, h, _⟩
    · rcases h i x hx with ⟨_, h⟩ | ⟨_, _, h⟩ | ⟨h1, h2, _⟩
      · exact absurd h (by decide)
      · exact absurd h (by decide)
      · exact ⟨h1, h2⟩
    · exact absurd rfl h

/-- a field in a box, to be read -/
structure FBox (w : World) (b : Nat) (x y z : Int) (v : Value) : Prop where
  c0 : w.cell? ⟨b, 0, none⟩ = some (.int .i64 x)
  c1 : w.cell? ⟨b, 1, none⟩ = some (.int .i64 y)
  c2 : w.cell? ⟨b, 2, none⟩ = some (.int .i64 z)
  c3 : w.cell? ⟨b, 3, none⟩ = some v
  lt : b < w.heap.size
theorem FBox.later {w w1 : World} {b : Nat} {x y z : Int} {v : Value} (h : FBox w b x y z v) (hb : Below w.heap.size w w1) : FBox w1 b x y z v :=
  ⟨(hb.cell h.lt).trans h.c0, (hb.cell h.lt).trans h.c1, (hb.cell h.lt).trans h.c2, (hb.cell h.lt).trans h.c3, Nat.lt_of_lt_of_le h.lt hb.size⟩

theorem fld_some {a b c : Int} {L : List Q} {w : World} {ao : Option Addr} (hr : fldR a b c L 0) (h : LiesO w ao L) : ∃ bl off, ao = some ⟨bl, off, none⟩ ∧ Lies w bl off L := by
  obtain ⟨hz, hn, _⟩ := fldR_ok hr
  obtain ⟨-, -, p3, p4⟩ := mul_rng hz.a1 hz.a4 hz.b1 hz.b4 hz.c1 hz.c4
  rcases h with rfl | h
  · simp at hn; omega
  · exact h
theorem fld_len {a b c : Int} {L : List Q} (hr : fldR a b c L 0) : L.length ≤ 48 := by
  obtain ⟨hz, hn, _⟩ := fldR_ok hr
  have := hz.p
  omega

theorem FBox.grown {w w1 : World} {b : Nat} {x y z : Int} {v : Value} {row : Option Nat} (h : FBox w b x y z v) (hg : w.grownBy w1 row) (hne : some b ≠ row) : FBox w1 b x y z v :=
  ⟨hg.cell h.c0 hne, hg.cell h.c1 hne, hg.cell h.c2 hne, hg.cell h.c3 hne, Nat.lt_of_lt_of_le h.lt hg.size⟩
end Go.Proofs.Ythloceljgmmdbaa
