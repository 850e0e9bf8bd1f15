/- Fields with vectors and a mass: which errors they have, as the program and the document's answers find it.
Conditions: the lists lie in memory as it is written at each theorem. -/
import Derived.Test.YtojmagooapjohaaFermA
import Derived.Test.YtojmagooapjohaaOpen4
import Derived.Test.YtojmagooapjohaaFermM
import Derived.ChangeKeysEq
namespace Go.Proofs.Ytojmagooapjohaa
set_option linter.unusedVariables false
set_option linter.unusedSimpArgs false
set_option maxRecDepth 1000000
open Go.RowKit
open Um Tm Fm

theorem nums7_ex (a b c : Int) (L : List Q) : ∃ ns r, numsR a b c L ns r := by
  obtain ⟨r, hr⟩ := fldR_ex a b c L
  by_cases h0 : r = 0
  · subst h0
    obtain ⟨ns, q, hq⟩ := smR_ex L
    cases q with
    | true => exact ⟨ns, 0, .inr ⟨hr, .inl ⟨hq, rfl⟩⟩⟩
    | false => exact ⟨ns, 7, .inr ⟨hr, .inr ⟨hq, rfl⟩⟩⟩
  · exact ⟨[], r, .inl ⟨hr, h0, rfl⟩⟩
theorem nums7_any (a b c r : Int) (ao : Option Addr) (cap : Nat) (L : List Q) (ns : List Int) (w : World) (h : LiesO w ao L) (hr : numsR a b c L ns r) (hlen : L.length ≤ 1000000) : Calls Try.prog 92 #[.agg #[.int .i64 a, .int .i64 b, .int .i64 c, .slice ao L.length cap]] w fun e w' => (∃ v, e = .returned (.tuple #[v, .int .i64 r])) ∧ Below w.heap.size w w' := by
  rcases hr with ⟨hr, h0, rfl⟩ | ⟨hr, ⟨hq, rfl⟩ | ⟨hq, rfl⟩⟩
  · exact (numbers_bad a b c r ao cap L w h hr h0 hlen).mono fun e w' ⟨he, hb⟩ => ⟨⟨_, he⟩, hb⟩
  · exact (numbers_ok a b c ao cap L ns true w h hr hq).mono fun e w' ⟨hh, hb⟩ => by
      rcases hh with ⟨-, a2, k, he, -⟩ | ⟨hf, -⟩
      · exact ⟨⟨_, he⟩, hb⟩
      · cases hf
  · exact (numbers_ok a b c ao cap L ns false w h hr hq).mono fun e w' ⟨hh, hb⟩ => by
      rcases hh with ⟨hf, -⟩ | ⟨-, he⟩
      · cases hf
      · exact ⟨⟨_, he⟩, hb⟩
theorem nums_three {a b c r : Int} {L : List Q} {ns : List Int} (h : numsR a b c L ns r) (h0 : r = 0) : Sz a b c ∧ (L.length : Int) = 3 * (a * b * c) := by
  rcases h with ⟨_, h1, _⟩ | ⟨hr, _⟩
  · exact absurd h0 h1
  · have := fldR_ok hr; exact ⟨this.1, this.2.1⟩
/-- how large an entry of a vector may be -/
def mE : Int := 268435456
/-- the error of a field with m links, whose own error is r0, and a vector -/
def vS (m : Nat) (M : List Sp) (r0 r : Int) : Prop := (r0 ≠ 0 ∧ r = r0) ∨ (r0 = 0 ∧ vecR m M mE r)
theorem vS_ex (m : Nat) (M : List Sp) (r0 : Int) : ∃ r, vS m M r0 r := by
  by_cases h : r0 = 0
  · obtain ⟨r, hr⟩ := vecR_ex m M mE; exact ⟨r, .inr ⟨h, hr⟩⟩
  · exact ⟨r0, .inl ⟨h, rfl⟩⟩
theorem vS_ok {m : Nat} {M : List Sp} {r0 : Int} (h : vS m M r0 0) : r0 = 0 ∧ M.length * 3 = m ∧ AllE mE M := by
  rcases h with ⟨h1, h2⟩ | ⟨h1, h2⟩
  · exact absurd h2.symm h1
  · rcases h2 with ⟨_, h⟩ | ⟨h3, h4, _⟩ | ⟨_, _, h⟩
    · cases h
    · exact ⟨h1, h3, h4⟩
    · cases h
set_option maxHeartbeats 1600000 in
theorem validate7_any (a b c r0 r : Int) (ao po : Option Addr) (cap pc : Nat) (L : List Q) (ns : List Int) (M : List Sp) (w : World) (h : LiesO w ao L) (hp : LiesOI w po (fl M)) (hr : numsR a b c L ns r0) (hv : vS L.length M r0 r) (hlen : L.length ≤ 1000000) (hlm : M.length ≤ 1000000) : Calls Try.prog 50 #[.agg #[.int .i64 a, .int .i64 b, .int .i64 c, .slice ao L.length cap], .slice po M.length pc] w fun e w' => e = .returned (.int .i64 r) ∧ Below w.heap.size w w' := by
  have H := Lib.hid h
  have HP := Lib.hid hp
  have c1 : ∀ W : World, LiesO W ao L → Calls Try.prog 92 #[.agg #[.int .i64 a, .int .i64 b, .int .i64 c, .slice ao L.length cap]] W fun e w' => (∃ v, e = .returned (.tuple #[v, .int .i64 r0])) ∧ Below W.heap.size W w' := fun W h => nums7_any a b c r0 ao cap L ns W h hr hlen
  rcases hv with ⟨h0, rfl⟩ | ⟨rfl, hv⟩
  · have h0' : (r != 0) = true := by simpa using h0
    clear h hp hr h0
    go_enter Try.func50, Try.ntmps50
    go_wp2_with ((with_reducible refine (c1 _ (H.out.later (by repeat (first | (with_reducible exact Below.refl _ _) | (with_reducible refine Below.setCell ?_ ?_ _) | (with_reducible refine Below.drew ?_) | (with_reducible refine Below.alloc ?_ ?_ _) | omega | (simp <;> omega))))).mono ?_); rintro e w1 ⟨⟨v, rfl⟩, hw1⟩)
    go_ret
    exact ⟨rfl, by repeat (first | (with_reducible exact Below.refl _ _) | (with_reducible refine Below.setCell ?_ ?_ _) | (with_reducible refine Below.drew ?_) | (with_reducible refine Below.alloc ?_ ?_ _) | (with_reducible refine Below.trans ?_ (Below.mono hw1 ?_)) | (with_reducible exact hw1.size) | omega | (simp <;> omega) | (simp <;> (have s := hw1.size; omega)) | (have s0 := hw1.size; (try simp at s0); (try simp); omega))⟩
  · have h3 := (nums_three hr rfl).2
    rcases hv with ⟨h1, rfl⟩ | hv
    · have t1 : ((M.length : Int) != (L.length : Int) / 3) = true := by simp; omega
      clear h hp hr h1 h3
      go_enter Try.func50, Try.ntmps50
      go_wp2_with ((with_reducible refine (c1 _ (H.out.later (by repeat (first | (with_reducible exact Below.refl _ _) | (with_reducible refine Below.setCell ?_ ?_ _) | (with_reducible refine Below.drew ?_) | (with_reducible refine Below.alloc ?_ ?_ _) | omega | (simp <;> omega))))).mono ?_); rintro e w1 ⟨⟨v, rfl⟩, hw1⟩; have hc1 := Tail.cells hw1; have zw10 := Nat.lt_of_lt_of_le (n := w.heap.size) (by simp <;> omega) hw1.size)
      go_ret
      exact ⟨rfl, by repeat (first | (with_reducible exact Below.refl _ _) | (with_reducible refine Below.setCell ?_ ?_ _) | (with_reducible refine Below.drew ?_) | (with_reducible refine Below.alloc ?_ ?_ _) | (with_reducible refine Below.trans ?_ (Below.mono hw1 ?_)) | (with_reducible exact hw1.size) | omega | (simp <;> omega) | (simp <;> (have s := hw1.size; omega)) | (have s0 := hw1.size; (try simp at s0); (try simp); omega))⟩
    · obtain ⟨q, hq, hqr⟩ : ∃ q : Bool, inR mE M q ∧ r = if q then 0 else 1 := by
        rcases hv with ⟨-, h1, h2⟩ | ⟨-, h1, h2⟩
        · exact ⟨true, .inl ⟨h1, rfl⟩, h2⟩
        · exact ⟨false, .inr ⟨h1, rfl⟩, h2⟩
      have t1 : ((M.length : Int) != (L.length : Int) / 3) = false := by
        rcases hv with ⟨h1, -⟩ | ⟨h1, -⟩ <;> (simp; omega)
      have c2 : ∀ W : World, LiesOI W po (fl M) → Calls Try.prog 56 #[.slice po M.length pc, .int .i64 268435456] W fun e w' => e = .returned (.bool q) ∧ Below W.heap.size W w' := fun W h => isWithin7_any 268435456 po M pc W q h (by decide) (by decide) hlm hq
      clear h hp hr hv h3 hq
      cases q
      all_goals
        obtain rfl := hqr
        go_enter Try.func50, Try.ntmps50
        go_wp2_with (first | ((with_reducible refine (c1 _ (H.out.later (by repeat (first | (with_reducible exact Below.refl _ _) | (with_reducible refine Below.setCell ?_ ?_ _) | (with_reducible refine Below.drew ?_) | (with_reducible refine Below.alloc ?_ ?_ _) | omega | (simp <;> omega))))).mono ?_); clear c1; rintro e w1 ⟨⟨v, rfl⟩, hw1⟩; have hc1 := Tail.cells hw1; have zw10 := Nat.lt_of_lt_of_le (n := w.heap.size) (by simp <;> omega) hw1.size) | ((with_reducible refine (c2 _ (HP.out.later (by repeat (first | (with_reducible exact Below.refl _ _) | (with_reducible refine Below.setCell ?_ ?_ _) | (with_reducible refine Below.drew ?_) | (with_reducible refine Below.alloc ?_ ?_ _) | (with_reducible refine Below.trans ?_ (Below.mono hw1 ?_)) | (with_reducible exact hw1.size) | omega | (simp <;> omega) | (simp <;> (have s := hw1.size; omega)) | (have s0 := hw1.size; (try simp at s0); (try simp); omega))))).mono ?_); rintro e w2 ⟨rfl, hw2⟩))
        go_ret
        exact ⟨rfl, by repeat (first | (with_reducible exact Below.refl _ _) | (with_reducible refine Below.setCell ?_ ?_ _) | (with_reducible refine Below.drew ?_) | (with_reducible refine Below.alloc ?_ ?_ _) | (with_reducible refine Below.trans ?_ (Below.mono hw2 ?_)) | (with_reducible refine Below.trans ?_ (Below.mono hw1 ?_)) | (with_reducible exact hw2.size) | (with_reducible exact hw1.size) | omega | (simp <;> omega) | (simp <;> (have s := hw2.size; omega)) | (simp <;> (have s := hw1.size; omega)) | (have s0 := hw2.size; (try simp at s0); have s1 := hw1.size; (try simp at s1); (try simp); omega))⟩
set_option maxHeartbeats 1600000 in
theorem refValidate7_any (a b c r0 r : Int) (ao po : Option Addr) (cap pc : Nat) (L : List Q) (ns : List Int) (M : List Sp) (w : World) (h : LiesO w ao L) (hp : LiesOI w po (fl M)) (hr : numsR a b c L ns r0) (hv : vS L.length M r0 r) (hlen : L.length ≤ 1000000) (hlm : M.length ≤ 1000000) : Calls Try.prog 132 #[.agg #[.int .i64 a, .int .i64 b, .int .i64 c, .slice ao L.length cap], .slice po M.length pc] w fun e w' => e = .returned (.int .i64 r) ∧ Below w.heap.size w w' := by
  have H := Lib.hid h
  have HP := Lib.hid hp
  have c1 : ∀ W : World, LiesO W ao L → Calls Try.prog 146 #[.agg #[.int .i64 a, .int .i64 b, .int .i64 c, .slice ao L.length cap]] W fun e w' => e = .returned (.int .i64 r0) ∧ Below W.heap.size W w' := fun W h => little_any a b c r0 ao cap L ns W h hr hlen
  rcases hv with ⟨h0, rfl⟩ | ⟨rfl, hv⟩
  · have h0' : (r != 0) = true := by simpa using h0
    clear h hp hr h0
    go_enter Try.func132, Try.ntmps132
    go_wp2_with ((with_reducible refine (c1 _ (H.out.later (by repeat (first | (with_reducible exact Below.refl _ _) | (with_reducible refine Below.setCell ?_ ?_ _) | (with_reducible refine Below.drew ?_) | (with_reducible refine Below.alloc ?_ ?_ _) | omega | (simp <;> omega))))).mono ?_); rintro e w1 ⟨rfl, hw1⟩)
    go_ret
    exact ⟨rfl, by repeat (first | (with_reducible exact Below.refl _ _) | (with_reducible refine Below.setCell ?_ ?_ _) | (with_reducible refine Below.drew ?_) | (with_reducible refine Below.alloc ?_ ?_ _) | (with_reducible refine Below.trans ?_ (Below.mono hw1 ?_)) | (with_reducible exact hw1.size) | omega | (simp <;> omega) | (simp <;> (have s := hw1.size; omega)) | (have s0 := hw1.size; (try simp at s0); (try simp); omega))⟩
  · have c2 : ∀ W : World, LiesOI W po (fl M) → Calls Try.prog 102 #[.agg #[.int .i64 a, .int .i64 b, .int .i64 c, .slice ao L.length cap], .slice po M.length pc, .int .i64 268435456] W fun e w' => e = .returned (.int .i64 r) ∧ Below W.heap.size W w' := fun W h => vector_any a b c 268435456 r ao po cap pc L M W h (by decide) (by decide) hlm hlen hv
    clear h hp hr hv
    go_enter Try.func132, Try.ntmps132
    go_wp2_with (first | ((with_reducible refine (c1 _ (H.out.later (by repeat (first | (with_reducible exact Below.refl _ _) | (with_reducible refine Below.setCell ?_ ?_ _) | (with_reducible refine Below.drew ?_) | (with_reducible refine Below.alloc ?_ ?_ _) | omega | (simp <;> omega))))).mono ?_); clear c1; rintro e w1 ⟨rfl, hw1⟩; have hc1 := Tail.cells hw1; have zw10 := Nat.lt_of_lt_of_le (n := w.heap.size) (by simp <;> omega) hw1.size) | ((with_reducible refine (c2 _ (HP.out.later (by repeat (first | (with_reducible exact Below.refl _ _) | (with_reducible refine Below.setCell ?_ ?_ _) | (with_reducible refine Below.drew ?_) | (with_reducible refine Below.alloc ?_ ?_ _) | (with_reducible refine Below.trans ?_ (Below.mono hw1 ?_)) | (with_reducible exact hw1.size) | omega | (simp <;> omega) | (simp <;> (have s := hw1.size; omega)) | (have s0 := hw1.size; (try simp at s0); (try simp); omega))))).mono ?_); rintro e w2 ⟨rfl, hw2⟩))
    go_ret
    exact ⟨rfl, by repeat (first | (with_reducible exact Below.refl _ _) | (with_reducible refine Below.setCell ?_ ?_ _) | (with_reducible refine Below.drew ?_) | (with_reducible refine Below.alloc ?_ ?_ _) | (with_reducible refine Below.trans ?_ (Below.mono hw2 ?_)) | (with_reducible refine Below.trans ?_ (Below.mono hw1 ?_)) | (with_reducible exact hw2.size) | (with_reducible exact hw1.size) | omega | (simp <;> omega) | (simp <;> (have s := hw2.size; omega)) | (simp <;> (have s := hw1.size; omega)) | (have s0 := hw2.size; (try simp at s0); have s1 := hw1.size; (try simp at s1); (try simp); omega))⟩
end Go.Proofs.Ytojmagooapjohaa

/- Fields with vectors and a mass: the first error of all, or the arms of the field, as the program and the document's answers find it.
Conditions: the lists lie in memory as it is written at each theorem. -/
namespace Go.Proofs.Ytojmagooapjohaa
set_option linter.unusedVariables false
set_option linter.unusedSimpArgs false
set_option maxRecDepth 1000000
open Go.RowKit
open Um Tm Fm

theorem small12 : ∀ k : Nat, k < 24 → ((small k).n = 1 ∨ (small k).n = 2) ∧ (-100 ≤ (small k).b ∧ (small k).b ≤ 100) ∧ (-100 ≤ (small k).c ∧ (small k).c ≤ 100) ∧ (-100 ≤ (small k).d ∧ (small k).d ≤ 100) := by decide
theorem numR_small {x : Q} {n : Int} (h : NumR x n true) : N12 x ∧ (-100 ≤ x.b ∧ x.b ≤ 100) ∧ (-100 ≤ x.c ∧ x.c ≤ 100) ∧ (-100 ≤ x.d ∧ x.d ≤ 100) := by
  rcases h with ⟨k, hk, rfl, -, -, -⟩ | ⟨-, -, h⟩
  · exact small12 k hk
  · cases h
/-- a small field -/
structure Fld7 (a b c : Int) (L : List Q) (n : Nat) : Prop where
  z : Sz a b c
  e : (n : Int) = a * b * c
  l : L.length = n * 3
  s : ∀ (i : Nat) (x : Q), L[i]? = some x → N12 x ∧ (-100 ≤ x.b ∧ x.b ≤ 100) ∧ (-100 ≤ x.c ∧ x.c ≤ 100) ∧ (-100 ≤ x.d ∧ x.d ≤ 100)
theorem fld7 {a b c : Int} {L : List Q} {ns : List Int} (h : numsR a b c L ns 0) : ∃ n, Fld7 a b c L n := by
  rcases h with ⟨_, h1, _⟩ | ⟨hr, ⟨hq, _⟩ | ⟨_, h⟩⟩
  · exact absurd rfl h1
  · obtain ⟨hz, hl, -⟩ := fldR_ok hr
    have hp := hz.p
    obtain ⟨-, -, p3, -⟩ := mul_rng hz.a1 hz.a4 hz.b1 hz.b4 hz.c1 hz.c4
    refine ⟨(a * b * c).toNat, hz, by omega, by omega, fun i x hx => ?_⟩
    rcases hq with ⟨-, hn⟩ | ⟨hf, -⟩
    · obtain ⟨m, -, hm⟩ := hn.2 i x (List.getElem?_eq_some_iff.1 hx).1 hx
      exact numR_small hm
    · cases hf
  · cases h
theorem Fld7.pos {a b c : Int} {L : List Q} {n : Nat} (h : Fld7 a b c L n) : 0 < n ∧ n ≤ 16 := by
  obtain ⟨-, -, p3, -⟩ := mul_rng h.z.a1 h.z.a4 h.z.b1 h.z.b4 h.z.c1 h.z.c4
  have := h.z.p
  have := h.e
  omega
theorem Fld7.lies {a b c : Int} {L : List Q} {n : Nat} (h : Fld7 a b c L n) {w : World} {ao : Option Addr} (hl : LiesO w ao L) : ∃ bl off, ao = some ⟨bl, off, none⟩ ∧ Lies w bl off L := by
  have := h.pos
  have := h.l
  rcases hl with h1 | h1
  · rw [h1] at this; simp at this; omega
  · exact h1
def ms0 (ma r : Int) : Prop := (¬ IsM ma ∧ r = 1) ∨ (IsM ma ∧ r = 0)
theorem ms0_ex (ma : Int) : ∃ r, ms0 ma r := by
  by_cases h : IsM ma
  · exact ⟨0, .inr ⟨h, rfl⟩⟩
  · exact ⟨1, .inl ⟨h, rfl⟩⟩
/-- the first error of a field, a vector and a mass -/
def ms1 (m : Nat) (M : List Sp) (r0 ma r : Int) : Prop := ∃ r1, vS m M r0 r1 ∧ ((r1 ≠ 0 ∧ r = r1) ∨ (r1 = 0 ∧ ms0 ma r))
theorem ms1_ex (m : Nat) (M : List Sp) (r0 ma : Int) : ∃ r, ms1 m M r0 ma r := by
  obtain ⟨r1, h1⟩ := vS_ex m M r0
  by_cases h : r1 = 0
  · obtain ⟨r, hr⟩ := ms0_ex ma; exact ⟨r, r1, h1, .inr ⟨h, hr⟩⟩
  · exact ⟨r1, r1, h1, .inl ⟨h, rfl⟩⟩
/-- the first error of a field, two vectors and a mass -/
def ms2 (m : Nat) (M N : List Sp) (r0 ma r : Int) : Prop := ∃ r1, vS m M r0 r1 ∧ ((r1 ≠ 0 ∧ r = r1) ∨ (r1 = 0 ∧ ms1 m N r0 ma r))
theorem ms2_ex (m : Nat) (M N : List Sp) (r0 ma : Int) : ∃ r, ms2 m M N r0 ma r := by
  obtain ⟨r1, h1⟩ := vS_ex m M r0
  by_cases h : r1 = 0
  · obtain ⟨r, hr⟩ := ms1_ex m N r0 ma; exact ⟨r, r1, h1, .inr ⟨h, hr⟩⟩
  · exact ⟨r1, r1, h1, .inl ⟨h, rfl⟩⟩
theorem ms1_ok {m : Nat} {M : List Sp} {r0 ma : Int} (h : ms1 m M r0 ma 0) : r0 = 0 ∧ M.length * 3 = m ∧ AllE mE M ∧ IsM ma := by
  obtain ⟨r1, h1, ⟨h2, h3⟩ | ⟨rfl, ⟨_, h3⟩ | ⟨h3, _⟩⟩⟩ := h
  · exact absurd h3.symm h2
  · cases h3
  · exact ⟨(vS_ok h1).1, (vS_ok h1).2.1, (vS_ok h1).2.2, h3⟩
theorem ms2_ok {m : Nat} {M N : List Sp} {r0 ma : Int} (h : ms2 m M N r0 ma 0) : r0 = 0 ∧ M.length * 3 = m ∧ AllE mE M ∧ N.length * 3 = m ∧ AllE mE N ∧ IsM ma := by
  obtain ⟨r1, h1, ⟨h2, h3⟩ | ⟨rfl, h3⟩⟩ := h
  · exact absurd h3.symm h2
  · obtain ⟨-, k1, k2, k3⟩ := ms1_ok h3
    exact ⟨(vS_ok h1).1, (vS_ok h1).2.1, (vS_ok h1).2.2, k1, k2, k3⟩
set_option maxHeartbeats 3200000 in
theorem start1_bad (a b c r0 ma r : Int) (ao po : Option Addr) (cap pc sb so : Nat) (L : List Q) (ns : List Int) (M : List Sp) (w : World) (h : LiesO w ao L) (hp : LiesOI w po (fl M)) (hs : w.cell? ⟨sb, so, none⟩ = some (.slice po M.length pc)) (hr : numsR a b c L ns r0) (hv : ms1 L.length M r0 ma r) (hne : r ≠ 0) (hlen : L.length ≤ 1000000) (hlm : M.length ≤ 1000000) : Calls Try.prog 54 #[.agg #[.int .i64 a, .int .i64 b, .int .i64 c, .slice ao L.length cap], .int .i64 ma, .slice (some ⟨sb, so, none⟩) 1 1] w fun e w' => e = .returned (.tuple #[.slice none 0 0, .int .i64 r]) ∧ Below w.heap.size w w' := by
  have H := Lib.hid h
  have HP := Lib.hid hp
  have hsl := World.block_lt_of_cell? _ _ hs
  have v1 : ∀ (r1 : Int), vS L.length M r0 r1 → ∀ W : World, LiesO W ao L → LiesOI W po (fl M) → Calls Try.prog 50 #[.agg #[.int .i64 a, .int .i64 b, .int .i64 c, .slice ao L.length cap], .slice po M.length pc] W fun e w' => e = .returned (.int .i64 r1) ∧ Below W.heap.size W w' := fun r1 hv W h h2 => validate7_any a b c r0 r1 ao po cap pc L ns M W h h2 hr hv hlen hlm
  have im := fun W : World => isMass_any ma W false
  obtain ⟨r1, hv1, hc⟩ := hv
  have c1 := v1 r1 hv1
  clear h hp v1 hv1 hr
  rcases hc with ⟨h1, rfl⟩ | ⟨rfl, hc⟩
  · have t1 : (r != 0) = true := by simpa using hne
    clear h1 hne im
    go_enter Try.func54, Try.ntmps54
    go_wp2
    refine wp_loop_rounds 1 ?_
    rw [rounds_succ]
    go_wp2_with ((with_reducible refine (c1 _ (H.out.later (by repeat (first | (with_reducible exact Below.refl _ _) | (with_reducible refine Below.setCell ?_ ?_ _) | (with_reducible refine Below.drew ?_) | (with_reducible refine Below.alloc ?_ ?_ _) | omega | (simp <;> omega)))) (HP.out.later (by repeat (first | (with_reducible exact Below.refl _ _) | (with_reducible refine Below.setCell ?_ ?_ _) | (with_reducible refine Below.drew ?_) | (with_reducible refine Below.alloc ?_ ?_ _) | omega | (simp <;> omega))))).mono ?_); clear c1; rintro e w1 ⟨rfl, hw1⟩; have hc1 := Tail.cells hw1; have zw10 := Nat.lt_of_lt_of_le (n := w.heap.size) (by simp <;> omega) hw1.size; have zs : sb < w1.heap.size := (by omega))
    go_ret2
    exact ⟨rfl, by repeat (first | (with_reducible exact Below.refl _ _) | (with_reducible refine Below.setCell ?_ ?_ _) | (with_reducible refine Below.drew ?_) | (with_reducible refine Below.alloc ?_ ?_ _) | (with_reducible refine Below.trans ?_ (Below.mono hw1 ?_)) | (with_reducible exact hw1.size) | omega | (simp <;> omega) | (simp <;> (have s := hw1.size; omega)) | (have s0 := hw1.size; (try simp at s0); (try simp); omega))⟩
  · rcases hc with ⟨hm, rfl⟩ | ⟨hm, h0⟩
    · have im1 := fun W => im W (.inr ⟨hm, rfl⟩)
      clear hm im hne
      go_enter Try.func54, Try.ntmps54
      go_wp2
      refine wp_loop_rounds 2 ?_
      rw [rounds_succ]
      go_wp2_with ((with_reducible refine (c1 _ (H.out.later (by repeat (first | (with_reducible exact Below.refl _ _) | (with_reducible refine Below.setCell ?_ ?_ _) | (with_reducible refine Below.drew ?_) | (with_reducible refine Below.alloc ?_ ?_ _) | omega | (simp <;> omega)))) (HP.out.later (by repeat (first | (with_reducible exact Below.refl _ _) | (with_reducible refine Below.setCell ?_ ?_ _) | (with_reducible refine Below.drew ?_) | (with_reducible refine Below.alloc ?_ ?_ _) | omega | (simp <;> omega))))).mono ?_); clear c1; rintro e w1 ⟨rfl, hw1⟩; have hc1 := Tail.cells hw1; have zw10 := Nat.lt_of_lt_of_le (n := w.heap.size) (by simp <;> omega) hw1.size; have zs : sb < w1.heap.size := (by omega))
      rw [rounds_succ]
      go_wp2_with ((with_reducible refine (im1 _).mono ?_); rintro e w2 ⟨rfl, rfl⟩)
      go_ret2
      exact ⟨rfl, by repeat (first | (with_reducible exact Below.refl _ _) | (with_reducible refine Below.setCell ?_ ?_ _) | (with_reducible refine Below.drew ?_) | (with_reducible refine Below.alloc ?_ ?_ _) | (with_reducible refine Below.trans ?_ (Below.mono hw1 ?_)) | (with_reducible exact hw1.size) | omega | (simp <;> omega) | (simp <;> (have s := hw1.size; omega)) | (have s0 := hw1.size; (try simp at s0); (try simp); omega))⟩
    · exact absurd h0 hne
set_option maxHeartbeats 3200000 in
theorem start1_ok (a b c r0 ma : Int) (ao po : Option Addr) (cap pc sb so : Nat) (L : List Q) (ns : List Int) (M : List Sp) (w : World) (h : LiesO w ao L) (hp : LiesOI w po (fl M)) (hs : w.cell? ⟨sb, so, none⟩ = some (.slice po M.length pc)) (hr : numsR a b c L ns r0) (hv : ms1 L.length M r0 ma 0) (n : Nat) (hf : Fld7 a b c L n) (hlm : M.length ≤ 1000000) : Calls Try.prog 54 #[.agg #[.int .i64 a, .int .i64 b, .int .i64 c, .slice ao L.length cap], .int .i64 ma, .slice (some ⟨sb, so, none⟩) 1 1] w fun e w' => RetH w.heap.size n (row (arms a b c L L.length)) e w' ∧ Below w.heap.size w w' := by
  have hlen : L.length ≤ 1000000 := by have := hf.pos; have := hf.l; omega
  obtain ⟨bl, off, rfl, hL⟩ := hf.lies h
  have HLL := Lib.hid hL
  have ch := fun (W : World) (hl : Lies W bl off L) => hoppingOf_any a b c bl off cap n L W hf.z hf.e hf.l hl (fun i x hx => (hf.s i x hx).1)
  have H := Lib.hid h
  have HP := Lib.hid hp
  have hsl := World.block_lt_of_cell? _ _ hs
  have v1 : ∀ (r1 : Int), vS L.length M r0 r1 → ∀ W : World, LiesO W (some ⟨bl, off, none⟩) L → LiesOI W po (fl M) → Calls Try.prog 50 #[.agg #[.int .i64 a, .int .i64 b, .int .i64 c, .slice (some ⟨bl, off, none⟩) L.length cap], .slice po M.length pc] W fun e w' => e = .returned (.int .i64 r1) ∧ Below W.heap.size W w' := fun r1 hv W h h2 => validate7_any a b c r0 r1 (some ⟨bl, off, none⟩) po cap pc L ns M W h h2 hr hv hlen hlm
  have him : IsM ma := (ms1_ok hv).2.2.2
  have im := fun W : World => isMass_any ma W true (.inl ⟨him, rfl⟩)
  have c1 := v1 0 (by
    obtain ⟨r1, h1, ⟨h2, h3⟩ | ⟨h2, -⟩⟩ := hv
    · exact absurd h3.symm h2
    · rw [h2] at h1; exact h1)
  clear h hp v1 hv hr him hL hf
  go_enter Try.func54, Try.ntmps54
  go_wp2
  refine wp_loop_rounds 2 ?_
  rw [rounds_succ]
  go_wp2_with ((with_reducible refine (c1 _ (H.out.later (by repeat (first | (with_reducible exact Below.refl _ _) | (with_reducible refine Below.setCell ?_ ?_ _) | (with_reducible refine Below.drew ?_) | (with_reducible refine Below.alloc ?_ ?_ _) | omega | (simp <;> omega)))) (HP.out.later (by repeat (first | (with_reducible exact Below.refl _ _) | (with_reducible refine Below.setCell ?_ ?_ _) | (with_reducible refine Below.drew ?_) | (with_reducible refine Below.alloc ?_ ?_ _) | omega | (simp <;> omega))))).mono ?_); clear c1; rintro e w1 ⟨rfl, hw1⟩; have hc1 := Tail.cells hw1; have zw10 := Nat.lt_of_lt_of_le (n := w.heap.size) (by simp <;> omega) hw1.size; have zs : sb < w1.heap.size := (by omega))
  rw [rounds_succ]
  go_wp2_with (first | ((with_reducible refine (im _).mono ?_); rintro e w3 ⟨rfl, rfl⟩) | ((with_reducible refine (ch _ (HLL.out.later (by repeat (first | (with_reducible exact Below.refl _ _) | (with_reducible refine Below.setCell ?_ ?_ _) | (with_reducible refine Below.drew ?_) | (with_reducible refine Below.alloc ?_ ?_ _) | (with_reducible refine Below.trans ?_ (Below.mono hw1 ?_)) | (with_reducible exact hw1.size) | omega | (simp <;> omega) | (simp <;> (have s := hw1.size; omega)) | (have s0 := hw1.size; (try simp at s0); (try simp); omega))))).mono ?_); rintro e w4 ⟨⟨g, vs, rfl, hH, hg⟩, hw4⟩; have HH := Lib.hid hH; clear hH))
  go_ret2
  have hsz : w.heap.size ≤ w1.heap.size := by omega
  refine ⟨⟨g, vs, rfl, ?_, by omega⟩, by repeat (first | (with_reducible exact Below.refl _ _) | (with_reducible refine Below.setCell ?_ ?_ _) | (with_reducible refine Below.drew ?_) | (with_reducible refine Below.alloc ?_ ?_ _) | (with_reducible refine Below.trans ?_ (Below.mono hw4 ?_)) | (with_reducible refine Below.trans ?_ (Below.mono hw1 ?_)) | (with_reducible exact hw4.size) | (with_reducible exact hw1.size) | omega | (simp <;> omega) | (simp <;> (have s := hw4.size; omega)) | (simp <;> (have s := hw1.size; omega)) | (have s0 := hw4.size; (try simp at s0); have s1 := hw1.size; (try simp at s1); (try simp); omega))⟩
  have hp := HH.out
  exact ⟨hp.cell, fun s hs => owned_base (hp.own s hs) hsz, hp.far, hp.apart, hp.free, hp.lt⟩
set_option maxHeartbeats 3200000 in
theorem start2_bad (a b c r0 ma r : Int) (ao po qo : Option Addr) (cap pc qc sb so : Nat) (L : List Q) (ns : List Int) (M N : List Sp) (w : World) (h : LiesO w ao L) (hp : LiesOI w po (fl M)) (hq : LiesOI w qo (fl N)) (hs : w.cell? ⟨sb, so, none⟩ = some (.slice po M.length pc)) (ht : w.cell? ⟨sb, so + 1, none⟩ = some (.slice qo N.length qc)) (hr : numsR a b c L ns r0) (hv : ms2 L.length M N r0 ma r) (hne : r ≠ 0) (hlen : L.length ≤ 1000000) (hlm : M.length ≤ 1000000) (hln : N.length ≤ 1000000) : Calls Try.prog 54 #[.agg #[.int .i64 a, .int .i64 b, .int .i64 c, .slice ao L.length cap], .int .i64 ma, .slice (some ⟨sb, so, none⟩) 2 2] w fun e w' => e = .returned (.tuple #[.slice none 0 0, .int .i64 r]) ∧ Below w.heap.size w w' := by
  have H := Lib.hid h
  have HP := Lib.hid hp
  have hsl := World.block_lt_of_cell? _ _ hs
  have v1 : ∀ (r1 : Int), vS L.length M r0 r1 → ∀ W : World, LiesO W ao L → LiesOI W po (fl M) → Calls Try.prog 50 #[.agg #[.int .i64 a, .int .i64 b, .int .i64 c, .slice ao L.length cap], .slice po M.length pc] W fun e w' => e = .returned (.int .i64 r1) ∧ Below W.heap.size W w' := fun r1 hv W h h2 => validate7_any a b c r0 r1 ao po cap pc L ns M W h h2 hr hv hlen hlm
  have HQ := Lib.hid hq
  have v2 : ∀ (r1 : Int), vS L.length N r0 r1 → ∀ W : World, LiesO W ao L → LiesOI W qo (fl N) → Calls Try.prog 50 #[.agg #[.int .i64 a, .int .i64 b, .int .i64 c, .slice ao L.length cap], .slice qo N.length qc] W fun e w' => e = .returned (.int .i64 r1) ∧ Below W.heap.size W w' := fun r1 hv W h h2 => validate7_any a b c r0 r1 ao qo cap qc L ns N W h h2 hr hv hlen hln
  have im := fun W : World => isMass_any ma W false
  obtain ⟨r1, hv1, hc⟩ := hv
  have c1 := v1 r1 hv1
  clear h hp v1 hv1 hr hq
  rcases hc with ⟨h1, rfl⟩ | ⟨rfl, hc⟩
  · have t1 : (r != 0) = true := by simpa using hne
    clear h1 hne im v2
    go_enter Try.func54, Try.ntmps54
    go_wp2
    refine wp_loop_rounds 1 ?_
    rw [rounds_succ]
    go_wp2_with ((with_reducible refine (c1 _ (H.out.later (by repeat (first | (with_reducible exact Below.refl _ _) | (with_reducible refine Below.setCell ?_ ?_ _) | (with_reducible refine Below.drew ?_) | (with_reducible refine Below.alloc ?_ ?_ _) | omega | (simp <;> omega)))) (HP.out.later (by repeat (first | (with_reducible exact Below.refl _ _) | (with_reducible refine Below.setCell ?_ ?_ _) | (with_reducible refine Below.drew ?_) | (with_reducible refine Below.alloc ?_ ?_ _) | omega | (simp <;> omega))))).mono ?_); clear c1; rintro e w1 ⟨rfl, hw1⟩; have hc1 := Tail.cells hw1; have zw10 := Nat.lt_of_lt_of_le (n := w.heap.size) (by simp <;> omega) hw1.size; have zs : sb < w1.heap.size := (by omega))
    go_ret2
    exact ⟨rfl, by repeat (first | (with_reducible exact Below.refl _ _) | (with_reducible refine Below.setCell ?_ ?_ _) | (with_reducible refine Below.drew ?_) | (with_reducible refine Below.alloc ?_ ?_ _) | (with_reducible refine Below.trans ?_ (Below.mono hw1 ?_)) | (with_reducible exact hw1.size) | omega | (simp <;> omega) | (simp <;> (have s := hw1.size; omega)) | (have s0 := hw1.size; (try simp at s0); (try simp); omega))⟩
  · obtain ⟨r2, hv2, hc⟩ := hc
    have c2 := v2 r2 hv2
    clear v2 hv2
    rcases hc with ⟨h1, rfl⟩ | ⟨rfl, hc⟩
    · have t1 : (r != 0) = true := by simpa using hne
      clear h1 hne im
      go_enter Try.func54, Try.ntmps54
      go_wp2
      refine wp_loop_rounds 2 ?_
      rw [rounds_succ]
      go_wp2_with ((with_reducible refine (c1 _ (H.out.later (by repeat (first | (with_reducible exact Below.refl _ _) | (with_reducible refine Below.setCell ?_ ?_ _) | (with_reducible refine Below.drew ?_) | (with_reducible refine Below.alloc ?_ ?_ _) | omega | (simp <;> omega)))) (HP.out.later (by repeat (first | (with_reducible exact Below.refl _ _) | (with_reducible refine Below.setCell ?_ ?_ _) | (with_reducible refine Below.drew ?_) | (with_reducible refine Below.alloc ?_ ?_ _) | omega | (simp <;> omega))))).mono ?_); clear c1; rintro e w1 ⟨rfl, hw1⟩; have hc1 := Tail.cells hw1; have zw10 := Nat.lt_of_lt_of_le (n := w.heap.size) (by simp <;> omega) hw1.size; have zs : sb < w1.heap.size := (by omega))
      rw [rounds_succ]
      go_wp2_with ((with_reducible refine (c2 _ (H.out.later (by repeat (first | (with_reducible exact Below.refl _ _) | (with_reducible refine Below.setCell ?_ ?_ _) | (with_reducible refine Below.drew ?_) | (with_reducible refine Below.alloc ?_ ?_ _) | (with_reducible refine Below.trans ?_ (Below.mono hw1 ?_)) | (with_reducible exact hw1.size) | omega | (simp <;> omega) | (simp <;> (have s := hw1.size; omega)) | (have s0 := hw1.size; (try simp at s0); (try simp); omega)))) (HQ.out.later (by repeat (first | (with_reducible exact Below.refl _ _) | (with_reducible refine Below.setCell ?_ ?_ _) | (with_reducible refine Below.drew ?_) | (with_reducible refine Below.alloc ?_ ?_ _) | (with_reducible refine Below.trans ?_ (Below.mono hw1 ?_)) | (with_reducible exact hw1.size) | omega | (simp <;> omega) | (simp <;> (have s := hw1.size; omega)) | (have s0 := hw1.size; (try simp at s0); (try simp); omega))))).mono ?_); clear c2; rintro e w2 ⟨rfl, hw2⟩; have hc2 := Tail.cells hw2; have zs2 : sb < w2.heap.size := Nat.lt_of_lt_of_le zs hw2.size; have z22 : w.heap.size < w2.heap.size := Nat.lt_of_lt_of_le zw10 hw2.size)
      go_ret2
      exact ⟨rfl, by repeat (first | (with_reducible exact Below.refl _ _) | (with_reducible refine Below.setCell ?_ ?_ _) | (with_reducible refine Below.drew ?_) | (with_reducible refine Below.alloc ?_ ?_ _) | (with_reducible refine Below.trans ?_ (Below.mono hw2 ?_)) | (with_reducible refine Below.trans ?_ (Below.mono hw1 ?_)) | (with_reducible exact hw2.size) | (with_reducible exact hw1.size) | omega | (simp <;> omega) | (simp <;> (have s := hw2.size; omega)) | (simp <;> (have s := hw1.size; omega)) | (have s0 := hw2.size; (try simp at s0); have s1 := hw1.size; (try simp at s1); (try simp); omega))⟩
    · rcases hc with ⟨hm, rfl⟩ | ⟨hm, h0⟩
      · have im1 := fun W => im W (.inr ⟨hm, rfl⟩)
        clear hm im hne
        go_enter Try.func54, Try.ntmps54
        go_wp2
        refine wp_loop_rounds 3 ?_
        rw [rounds_succ]
        go_wp2_with ((with_reducible refine (c1 _ (H.out.later (by repeat (first | (with_reducible exact Below.refl _ _) | (with_reducible refine Below.setCell ?_ ?_ _) | (with_reducible refine Below.drew ?_) | (with_reducible refine Below.alloc ?_ ?_ _) | omega | (simp <;> omega)))) (HP.out.later (by repeat (first | (with_reducible exact Below.refl _ _) | (with_reducible refine Below.setCell ?_ ?_ _) | (with_reducible refine Below.drew ?_) | (with_reducible refine Below.alloc ?_ ?_ _) | omega | (simp <;> omega))))).mono ?_); clear c1; rintro e w1 ⟨rfl, hw1⟩; have hc1 := Tail.cells hw1; have zw10 := Nat.lt_of_lt_of_le (n := w.heap.size) (by simp <;> omega) hw1.size; have zs : sb < w1.heap.size := (by omega))
        rw [rounds_succ]
        go_wp2_with ((with_reducible refine (c2 _ (H.out.later (by repeat (first | (with_reducible exact Below.refl _ _) | (with_reducible refine Below.setCell ?_ ?_ _) | (with_reducible refine Below.drew ?_) | (with_reducible refine Below.alloc ?_ ?_ _) | (with_reducible refine Below.trans ?_ (Below.mono hw1 ?_)) | (with_reducible exact hw1.size) | omega | (simp <;> omega) | (simp <;> (have s := hw1.size; omega)) | (have s0 := hw1.size; (try simp at s0); (try simp); omega)))) (HQ.out.later (by repeat (first | (with_reducible exact Below.refl _ _) | (with_reducible refine Below.setCell ?_ ?_ _) | (with_reducible refine Below.drew ?_) | (with_reducible refine Below.alloc ?_ ?_ _) | (with_reducible refine Below.trans ?_ (Below.mono hw1 ?_)) | (with_reducible exact hw1.size) | omega | (simp <;> omega) | (simp <;> (have s := hw1.size; omega)) | (have s0 := hw1.size; (try simp at s0); (try simp); omega))))).mono ?_); clear c2; rintro e w2 ⟨rfl, hw2⟩; have hc2 := Tail.cells hw2; have zs2 : sb < w2.heap.size := Nat.lt_of_lt_of_le zs hw2.size; have z22 : w.heap.size < w2.heap.size := Nat.lt_of_lt_of_le zw10 hw2.size)
        rw [rounds_succ]
        go_wp2_with ((with_reducible refine (im1 _).mono ?_); rintro e w3 ⟨rfl, rfl⟩)
        go_ret2
        exact ⟨rfl, by repeat (first | (with_reducible exact Below.refl _ _) | (with_reducible refine Below.setCell ?_ ?_ _) | (with_reducible refine Below.drew ?_) | (with_reducible refine Below.alloc ?_ ?_ _) | (with_reducible refine Below.trans ?_ (Below.mono hw2 ?_)) | (with_reducible refine Below.trans ?_ (Below.mono hw1 ?_)) | (with_reducible exact hw2.size) | (with_reducible exact hw1.size) | omega | (simp <;> omega) | (simp <;> (have s := hw2.size; omega)) | (simp <;> (have s := hw1.size; omega)) | (have s0 := hw2.size; (try simp at s0); have s1 := hw1.size; (try simp at s1); (try simp); omega))⟩
      · exact absurd h0 hne
set_option maxHeartbeats 3200000 in
theorem start2_ok (a b c r0 ma : Int) (ao po qo : Option Addr) (cap pc qc sb so : Nat) (L : List Q) (ns : List Int) (M N : List Sp) (w : World) (h : LiesO w ao L) (hp : LiesOI w po (fl M)) (hq : LiesOI w qo (fl N)) (hs : w.cell? ⟨sb, so, none⟩ = some (.slice po M.length pc)) (ht : w.cell? ⟨sb, so + 1, none⟩ = some (.slice qo N.length qc)) (hr : numsR a b c L ns r0) (hv : ms2 L.length M N r0 ma 0) (n : Nat) (hf : Fld7 a b c L n) (hlm : M.length ≤ 1000000) (hln : N.length ≤ 1000000) : Calls Try.prog 54 #[.agg #[.int .i64 a, .int .i64 b, .int .i64 c, .slice ao L.length cap], .int .i64 ma, .slice (some ⟨sb, so, none⟩) 2 2] w fun e w' => RetH w.heap.size n (row (arms a b c L L.length)) e w' ∧ Below w.heap.size w w' := by
  have hlen : L.length ≤ 1000000 := by have := hf.pos; have := hf.l; omega
  obtain ⟨bl, off, rfl, hL⟩ := hf.lies h
  have HLL := Lib.hid hL
  have ch := fun (W : World) (hl : Lies W bl off L) => hoppingOf_any a b c bl off cap n L W hf.z hf.e hf.l hl (fun i x hx => (hf.s i x hx).1)
  have H := Lib.hid h
  have HP := Lib.hid hp
  have hsl := World.block_lt_of_cell? _ _ hs
  have v1 : ∀ (r1 : Int), vS L.length M r0 r1 → ∀ W : World, LiesO W (some ⟨bl, off, none⟩) L → LiesOI W po (fl M) → Calls Try.prog 50 #[.agg #[.int .i64 a, .int .i64 b, .int .i64 c, .slice (some ⟨bl, off, none⟩) L.length cap], .slice po M.length pc] W fun e w' => e = .returned (.int .i64 r1) ∧ Below W.heap.size W w' := fun r1 hv W h h2 => validate7_any a b c r0 r1 (some ⟨bl, off, none⟩) po cap pc L ns M W h h2 hr hv hlen hlm
  have HQ := Lib.hid hq
  have v2 : ∀ (r1 : Int), vS L.length N r0 r1 → ∀ W : World, LiesO W (some ⟨bl, off, none⟩) L → LiesOI W qo (fl N) → Calls Try.prog 50 #[.agg #[.int .i64 a, .int .i64 b, .int .i64 c, .slice (some ⟨bl, off, none⟩) L.length cap], .slice qo N.length qc] W fun e w' => e = .returned (.int .i64 r1) ∧ Below W.heap.size W w' := fun r1 hv W h h2 => validate7_any a b c r0 r1 (some ⟨bl, off, none⟩) qo cap qc L ns N W h h2 hr hv hlen hln
  have him : IsM ma := (ms2_ok hv).2.2.2.2.2
  have im := fun W : World => isMass_any ma W true (.inl ⟨him, rfl⟩)
  have c1 := v1 0 (by
    obtain ⟨r1, h1, ⟨h2, h3⟩ | ⟨h2, -⟩⟩ := hv
    · exact absurd h3.symm h2
    · rw [h2] at h1; exact h1)
  have c2 := v2 0 (by
    obtain ⟨r1, h1, ⟨h2, h3⟩ | ⟨h2, r2, h4, ⟨h5, h6⟩ | ⟨h5, -⟩⟩⟩ := hv
    · exact absurd h3.symm h2
    · exact absurd h6.symm h5
    · rw [h5] at h4; exact h4)
  clear h hp v1 hv hr him hL hf hq v2
  go_enter Try.func54, Try.ntmps54
  go_wp2
  refine wp_loop_rounds 3 ?_
  rw [rounds_succ]
  go_wp2_with ((with_reducible refine (c1 _ (H.out.later (by repeat (first | (with_reducible exact Below.refl _ _) | (with_reducible refine Below.setCell ?_ ?_ _) | (with_reducible refine Below.drew ?_) | (with_reducible refine Below.alloc ?_ ?_ _) | omega | (simp <;> omega)))) (HP.out.later (by repeat (first | (with_reducible exact Below.refl _ _) | (with_reducible refine Below.setCell ?_ ?_ _) | (with_reducible refine Below.drew ?_) | (with_reducible refine Below.alloc ?_ ?_ _) | omega | (simp <;> omega))))).mono ?_); clear c1; rintro e w1 ⟨rfl, hw1⟩; have hc1 := Tail.cells hw1; have zw10 := Nat.lt_of_lt_of_le (n := w.heap.size) (by simp <;> omega) hw1.size; have zs : sb < w1.heap.size := (by omega))
  rw [rounds_succ]
  go_wp2_with ((with_reducible refine (c2 _ (H.out.later (by repeat (first | (with_reducible exact Below.refl _ _) | (with_reducible refine Below.setCell ?_ ?_ _) | (with_reducible refine Below.drew ?_) | (with_reducible refine Below.alloc ?_ ?_ _) | (with_reducible refine Below.trans ?_ (Below.mono hw1 ?_)) | (with_reducible exact hw1.size) | omega | (simp <;> omega) | (simp <;> (have s := hw1.size; omega)) | (have s0 := hw1.size; (try simp at s0); (try simp); omega)))) (HQ.out.later (by repeat (first | (with_reducible exact Below.refl _ _) | (with_reducible refine Below.setCell ?_ ?_ _) | (with_reducible refine Below.drew ?_) | (with_reducible refine Below.alloc ?_ ?_ _) | (with_reducible refine Below.trans ?_ (Below.mono hw1 ?_)) | (with_reducible exact hw1.size) | omega | (simp <;> omega) | (simp <;> (have s := hw1.size; omega)) | (have s0 := hw1.size; (try simp at s0); (try simp); omega))))).mono ?_); clear c2; rintro e w2 ⟨rfl, hw2⟩; have hc2 := Tail.cells hw2; have zs2 : sb < w2.heap.size := Nat.lt_of_lt_of_le zs hw2.size; have z22 : w.heap.size < w2.heap.size := Nat.lt_of_lt_of_le zw10 hw2.size)
  rw [rounds_succ]
  go_wp2_with (first | ((with_reducible refine (im _).mono ?_); rintro e w3 ⟨rfl, rfl⟩) | ((with_reducible refine (ch _ (HLL.out.later (by repeat (first | (with_reducible exact Below.refl _ _) | (with_reducible refine Below.setCell ?_ ?_ _) | (with_reducible refine Below.drew ?_) | (with_reducible refine Below.alloc ?_ ?_ _) | (with_reducible refine Below.trans ?_ (Below.mono hw2 ?_)) | (with_reducible refine Below.trans ?_ (Below.mono hw1 ?_)) | (with_reducible exact hw2.size) | (with_reducible exact hw1.size) | omega | (simp <;> omega) | (simp <;> (have s := hw2.size; omega)) | (simp <;> (have s := hw1.size; omega)) | (have s0 := hw2.size; (try simp at s0); have s1 := hw1.size; (try simp at s1); (try simp); omega))))).mono ?_); rintro e w4 ⟨⟨g, vs, rfl, hH, hg⟩, hw4⟩; have HH := Lib.hid hH; clear hH))
  go_ret2
  have hsz : w.heap.size ≤ w2.heap.size := by omega
  refine ⟨⟨g, vs, rfl, ?_, by omega⟩, by repeat (first | (with_reducible exact Below.refl _ _) | (with_reducible refine Below.setCell ?_ ?_ _) | (with_reducible refine Below.drew ?_) | (with_reducible refine Below.alloc ?_ ?_ _) | (with_reducible refine Below.trans ?_ (Below.mono hw4 ?_)) | (with_reducible refine Below.trans ?_ (Below.mono hw2 ?_)) | (with_reducible refine Below.trans ?_ (Below.mono hw1 ?_)) | (with_reducible exact hw4.size) | (with_reducible exact hw2.size) | (with_reducible exact hw1.size) | omega | (simp <;> omega) | (simp <;> (have s := hw4.size; omega)) | (simp <;> (have s := hw2.size; omega)) | (simp <;> (have s := hw1.size; omega)) | (have s0 := hw4.size; (try simp at s0); have s1 := hw2.size; (try simp at s1); have s2 := hw1.size; (try simp at s2); (try simp); omega))⟩
  have hp := HH.out
  exact ⟨hp.cell, fun s hs => owned_base (hp.own s hs) hsz, hp.far, hp.apart, hp.free, hp.lt⟩
end Go.Proofs.Ytojmagooapjohaa

/- The operator and the dagger, as the program applies them.
Conditions: the arms and the vector lie in memory as it is written. -/
namespace Go.Proofs.Ytojmagooapjohaa
set_option linter.unusedVariables false
set_option linter.unusedSimpArgs false
set_option maxRecDepth 1000000
open Go.RowKit
open Um Tm Fm

theorem IBox.liesI {w : World} {g : Nat} {l : List Int} (k : IBox w g l) : LiesI w g 0 l := k.h
/-- every arm comes from a site -/
theorem arms_frm {a b c : Int} {L : List Q} {n : Nat} (h : Fld7 a b c L n) : ∀ k, k ≤ L.length → ∀ x ∈ arms a b c L k, x.frm < n
  | 0, _, x, hx => by simp [arms] at hx
  | k + 1, hk, x, hx => by
    have hy := nxl_rng h.z k
    have := h.e
    have := h.l
    simp only [arms, List.mem_append, List.mem_cons, List.not_mem_nil, or_false] at hx
    rcases hx with (hx | rfl) | rfl
    · exact arms_frm h k (by omega) x hx
    · show nxl a b c k < n
      omega
    · show k / 3 < n
      omega
theorem rows_frm {a b c : Int} {L : List Q} {n : Nat} (h : Fld7 a b c L n) : ∀ (s j : Nat) (x : Arm), s < n → (row (arms a b c L L.length) s)[j]? = some x → x.frm < n := fun s j x _ hx =>
  arms_frm h L.length (Nat.le_refl _) x (List.mem_filter.1 (List.mem_of_getElem? hx)).1
theorem rows_len {a b c : Int} {L : List Q} {n : Nat} (h : Fld7 a b c L n) : ∀ s, s < n → (row (arms a b c L L.length) s).length ≤ 1000000 := fun s _ => by
  have h1 := row_len (arms a b c L L.length) s
  rw [arms_len] at h1
  have := h.pos
  have := h.l
  omega
/-- the arms of a field -/
abbrev AL (a b c : Int) (L : List Q) : List Arm := arms a b c L L.length
theorem of7_any (a b c : Int) (L : List Q) (base g n gc bb off pc : Nat) (vs : Nat → Value) (M : List Sp) (w : World) (hF : Fld7 a b c L n) (hH : Hp w base g n vs (row (arms a b c L L.length))) (hM : LiesI w bb off (fl M)) (hn : M.length = n) : Calls Try.prog 95 #[.slice (some ⟨g, 0, none⟩) n gc, .slice (some ⟨bb, off, none⟩) n pc] w fun e w' => (∃ g k : Nat, e = .returned (.slice (some ⟨g, 0, none⟩) n k) ∧ IBox w' g (fl (hopL n (arms a b c L L.length) M)) ∧ w.heap.size ≤ g) ∧ Below w.heap.size w w' :=
  (of_any base g n gc bb off pc vs _ M w hH hM hn hF.pos.1 (rows_frm hF) (rows_len hF) (by have := hF.pos; omega)).mono fun e w' ⟨⟨g', k, he, hb, hg⟩, hw⟩ => ⟨⟨g', k, by rw [he, hopR_row, hopL_len], hb, hg⟩, hw⟩
set_option maxHeartbeats 1600000 in
theorem apply7_any (a b c ma : Int) (L : List Q) (base g n gc bb off pc : Nat) (vs : Nat → Value) (M : List Sp) (w : World) (hF : Fld7 a b c L n) (hm : IsM ma) (hH : Hp w base g n vs (row (arms a b c L L.length))) (hM : LiesI w bb off (fl M)) (hn : M.length = n) : Calls Try.prog 55 #[.slice (some ⟨g, 0, none⟩) n gc, .int .i64 ma, .slice (some ⟨bb, off, none⟩) n pc] w fun e w' => (∃ g k : Nat, e = .returned (.slice (some ⟨g, 0, none⟩) n k) ∧ IBox w' g (fl (opL 1 ma n (arms a b c L L.length) M)) ∧ w.heap.size ≤ g) ∧ Below w.heap.size w w' := by
  have HM := Lib.hid hM
  have HX := Lib.hid (apply_op ma (n := n) (arms a b c L L.length) M)
  have hlt := fl_lt hM (by have := hF.pos; omega)
  have hn6 : n ≤ 16 := hF.pos.2
  have c1 := of7_any a b c L base g n gc bb off pc vs M w hF hH hM hn
  have c2 : ∀ (W : World) (g1 k1 : Nat), IBox W g1 (fl (hopL n (arms a b c L L.length) M)) → LiesI W bb off (fl M) → bb ≠ g1 → Calls Try.prog 96 #[.slice (some ⟨g1, 0, none⟩) n k1, .int .i64 (4 * ma), .slice (some ⟨bb, off, none⟩) n pc] W fun e w' => e = .returned (.tuple #[]) ∧ IBox w' g1 (fl (opL 1 ma n (arms a b c L L.length) M)) ∧ W.grownBy w' (some g1) := fun W g1 k1 h1 h2 h3 => by
    have := addV_any (4 * ma) g1 k1 (some ⟨bb, off, none⟩) pc (hopL n (arms a b c L L.length) M) M W h1 (.inr ⟨bb, off, rfl, h2⟩) (fun b' o' h => by cases h; exact h3) (by rw [hopL_len, hn]) (by omega)
    rw [← hopR_row, HX.out, hn] at this
    exact this
  obtain ⟨m1, m2⟩ := hm
  clear hM hH hF hn
  go_enter Try.func55, Try.ntmps55
  go_wp2_with ((with_reducible refine c1.mono ?_); clear c1; rintro e w1 ⟨⟨g1, k1, rfl, hb1, hg1⟩, hw1⟩; have HB1 := Lib.hid hb1; clear hb1)
  go_wp2_with ((with_reducible refine (c2 _ _ _ HB1.out (HM.out.later hw1) (by omega)).mono ?_); clear c2; rintro e w2 ⟨rfl, hb2, hg2⟩; have HB2 := Lib.hid hb2; clear hb2)
  go_ret
  exact ⟨⟨g1, k1, rfl, HB2.out, hg1⟩, hw1.grown hg2 hw1.size (fun j hj => by cases hj; exact hg1)⟩
set_option maxHeartbeats 1600000 in
theorem dagger7_any (a b c ma : Int) (L : List Q) (base g n gc bb off pc : Nat) (vs : Nat → Value) (M : List Sp) (w : World) (hF : Fld7 a b c L n) (hm : IsM ma) (hH : Hp w base g n vs (row (arms a b c L L.length))) (hM : LiesI w bb off (fl M)) (hn : M.length = n) : Calls Try.prog 99 #[.slice (some ⟨g, 0, none⟩) n gc, .int .i64 ma, .slice (some ⟨bb, off, none⟩) n pc] w fun e w' => (∃ g k : Nat, e = .returned (.slice (some ⟨g, 0, none⟩) n k) ∧ IBox w' g (fl (opL (-1) ma n (arms a b c L L.length) M)) ∧ w.heap.size ≤ g) ∧ Below w.heap.size w w' := by
  have HM := Lib.hid hM
  have HH := Lib.hid hH
  have HX := Lib.hid (dagger_op ma (n := n) (arms a b c L L.length) M hn)
  have hp := hF.pos
  have c1 : Calls Try.prog 59 #[.int .i64 (4 * ma), .slice (some ⟨bb, off, none⟩) n pc] w fun e w' => (∃ g k : Nat, e = .returned (.slice (some ⟨g, 0, none⟩) n k) ∧ IBox w' g (fl (mulL (4 * ma) M)) ∧ w.heap.size ≤ g) ∧ Below w.heap.size w w' := by
    have := multiple_any (4 * ma) bb off pc M w hM (by omega) (by omega)
    rw [hn] at this
    exact this.mono fun e w' ⟨⟨g', k, he, hb, hg⟩, hw⟩ => ⟨⟨g', k, by rw [he, mulL_len, hn], hb, hg⟩, hw⟩
  have c2 : ∀ W : World, Hp W base g n vs (row (arms a b c L L.length)) → LiesI W bb off (fl M) → Calls Try.prog 95 #[.slice (some ⟨g, 0, none⟩) n gc, .slice (some ⟨bb, off, none⟩) n pc] W fun e w' => (∃ g k : Nat, e = .returned (.slice (some ⟨g, 0, none⟩) n k) ∧ IBox w' g (fl (hopL n (arms a b c L L.length) M)) ∧ W.heap.size ≤ g) ∧ Below W.heap.size W w' := fun W h1 h2 => of7_any a b c L base g n gc bb off pc vs M W hF h1 h2 hn
  have c3 : ∀ (W : World) (g1 k1 g2 k2 : Nat), LiesI W g1 0 (fl (mulL (4 * ma) M)) → LiesI W g2 0 (fl (hopL n (arms a b c L L.length) M)) → Calls Try.prog 97 #[.slice (some ⟨g1, 0, none⟩) n k1, .slice (some ⟨g2, 0, none⟩) n k2] W fun e w' => (∃ g k : Nat, e = .returned (.slice (some ⟨g, 0, none⟩) n k) ∧ IBox w' g (fl (opL (-1) ma n (arms a b c L L.length) M)) ∧ W.heap.size ≤ g) ∧ Below W.heap.size W w' := fun W g1 k1 g2 k2 h1 h2 => by
    have := minus_any g1 0 k1 g2 0 k2 (mulL (4 * ma) M) (hopL n (arms a b c L L.length) M) W h1 h2 (by rw [hopL_len]; omega) (by rw [hopL_len, mulL_len, hn]) (by rw [hopL_len]; omega)
    rw [hopL_len, ← hopR_row, HX.out] at this
    exact this.mono fun e w' ⟨⟨g', k, he, hb, hg⟩, hw⟩ => ⟨⟨g', k, by rw [he, opL_len], hb, hg⟩, hw⟩
  obtain ⟨m1, m2⟩ := hm
  clear hM hH hF hn hp
  go_enter Try.func99, Try.ntmps99
  go_wp2_with ((with_reducible refine c1.mono ?_); clear c1; rintro e w1 ⟨⟨g1, k1, rfl, hb1, hg1⟩, hw1⟩; have HB1 := Lib.hid hb1; clear hb1)
  go_wp2_with ((with_reducible refine (c2 _ (HH.out.later hw1) (HM.out.later hw1)).mono ?_); clear c2; rintro e w2 ⟨⟨g2, k2, rfl, hb2, hg2⟩, hw2⟩; have HB2 := Lib.hid hb2; clear hb2)
  go_wp2_with ((with_reducible refine (c3 _ _ _ _ _ (HB1.out.later hw2).liesI HB2.out.liesI).mono ?_); clear c3; rintro e w3 ⟨⟨g3, k3, rfl, hb3, hg3⟩, hw3⟩; have HB3 := Lib.hid hb3; clear hb3)
  go_ret
  exact ⟨⟨g3, k3, rfl, HB3.out, by have := hw1.size; have := hw2.size; omega⟩, by repeat (first | (with_reducible exact Below.refl _ _) | (with_reducible refine Below.setCell ?_ ?_ _) | (with_reducible refine Below.drew ?_) | (with_reducible refine Below.alloc ?_ ?_ _) | (with_reducible refine Below.trans ?_ (Below.mono hw3 ?_)) | (with_reducible refine Below.trans ?_ (Below.mono hw2 ?_)) | (with_reducible refine Below.trans ?_ (Below.mono hw1 ?_)) | (with_reducible exact hw3.size) | (with_reducible exact hw2.size) | (with_reducible exact hw1.size) | omega | (simp <;> omega) | (simp <;> (have s := hw3.size; omega)) | (simp <;> (have s := hw2.size; omega)) | (simp <;> (have s := hw1.size; omega)) | (have s0 := hw3.size; (try simp at s0); have s1 := hw2.size; (try simp at s1); have s2 := hw1.size; (try simp at s2); (try simp); omega))⟩
end Go.Proofs.Ytojmagooapjohaa

/- Hop, Apply, Dagger and Twice, as the program answers them.
Conditions: the lists lie in memory as it is written at each theorem. -/
namespace Go.Proofs.Ytojmagooapjohaa
set_option linter.unusedVariables false
set_option linter.unusedSimpArgs false
set_option maxRecDepth 1000000
open Go.RowKit
open Um Tm Fm

theorem box_at (w : World) (v : Value) (T : TypeId) : (w.alloc (.cells #[v] T)).cell? ⟨w.heap.size, 0, none⟩ = some v := by simp [go_sem]
def RetV7 (m n : Nat) (M : List Sp) (e : Ending) (w' : World) : Prop := ∃ g k : Nat, e = .returned (.tuple #[.slice (some ⟨g, 0, none⟩) n k, .int .i64 0]) ∧ IBox w' g (fl M) ∧ m ≤ g
set_option maxHeartbeats 1600000 in
theorem apply_bad (a b c r0 ma r : Int) (ao po : Option Addr) (cap pc : Nat) (L : List Q) (ns : List Int) (M : List Sp) (w : World) (h : LiesO w ao L) (hp : LiesOI w po (fl M)) (hr : numsR a b c L ns r0) (hv : ms1 L.length M r0 ma r) (hne : r ≠ 0) (hlen : L.length ≤ 1000000) (hlm : M.length ≤ 1000000) : Calls Try.prog 22 #[.agg #[.int .i64 a, .int .i64 b, .int .i64 c, .slice ao L.length cap], .int .i64 ma, .slice po M.length pc] w fun e w' => e = .returned (.tuple #[.slice none 0 0, .int .i64 r]) ∧ Below w.heap.size w w' := by
  have H := Lib.hid h
  have HP := Lib.hid hp
  have v1 : ∀ (sb : Nat) (W : World), LiesO W ao L → LiesOI W po (fl M) → W.cell? ⟨sb, 0, none⟩ = some (.slice po M.length pc) → Calls Try.prog 54 #[.agg #[.int .i64 a, .int .i64 b, .int .i64 c, .slice ao L.length cap], .int .i64 ma, .slice (some ⟨sb, 0, none⟩) 1 1] W fun e w' => e = .returned (.tuple #[.slice none 0 0, .int .i64 r]) ∧ Below W.heap.size W w' := fun sb W h h2 h3 => start1_bad a b c r0 ma r ao po cap pc sb 0 L ns M W h h2 h3 hr hv hne hlen hlm
  have t1 : (r != 0) = true := by simpa using hne
  clear h hp hr hv hne
  go_enter Try.func22, Try.ntmps22
  go_wp2_with ((with_reducible refine (v1 _ _ (H.out.later (by repeat (first | (with_reducible exact Below.refl _ _) | (with_reducible refine Below.setCell ?_ ?_ _) | (with_reducible refine Below.drew ?_) | (with_reducible refine Below.alloc ?_ ?_ _) | omega | (simp <;> omega)))) (HP.out.later (by repeat (first | (with_reducible exact Below.refl _ _) | (with_reducible refine Below.setCell ?_ ?_ _) | (with_reducible refine Below.drew ?_) | (with_reducible refine Below.alloc ?_ ?_ _) | omega | (simp <;> omega)))) (by simp [go_sem])).mono ?_); rintro e w1 ⟨rfl, hw1⟩)
  go_ret2
  exact ⟨rfl, by repeat (first | (with_reducible exact Below.refl _ _) | (with_reducible refine Below.setCell ?_ ?_ _) | (with_reducible refine Below.drew ?_) | (with_reducible refine Below.alloc ?_ ?_ _) | (with_reducible refine Below.trans ?_ (Below.mono hw1 ?_)) | (with_reducible exact hw1.size) | omega | (simp <;> omega) | (simp <;> (have s := hw1.size; omega)) | (have s0 := hw1.size; (try simp at s0); (try simp); omega))⟩
set_option maxHeartbeats 1600000 in
theorem apply_ok (a b c ma : Int) (ao po : Option Addr) (cap pc : Nat) (L : List Q) (ns : List Int) (M : List Sp) (w : World) (h : LiesO w ao L) (hp : LiesOI w po (fl M)) (hr : numsR a b c L ns 0) (hv : ms1 L.length M 0 ma 0) (n : Nat) (hF : Fld7 a b c L n) : Calls Try.prog 22 #[.agg #[.int .i64 a, .int .i64 b, .int .i64 c, .slice ao L.length cap], .int .i64 ma, .slice po M.length pc] w fun e w' => RetV7 w.heap.size n (opL 1 ma n (arms a b c L L.length) M) e w' ∧ Below w.heap.size w w' := by
  have hps := hF.pos
  have hll := hF.l
  have hM := (ms1_ok hv).2.1
  have hma := (ms1_ok hv).2.2.2
  have hmn : M.length = n := by omega
  obtain ⟨pb, po2, rfl, hP⟩ := lies_some hp (List.getElem?_eq_getElem (show 0 < M.length by omega))
  have HL := Lib.hid h
  have HP := Lib.hid hP
  have v1 : ∀ (sb : Nat) (W : World), LiesO W ao L → LiesI W pb po2 (fl M) → W.cell? ⟨sb, 0, none⟩ = some (.slice (some ⟨pb, po2, none⟩) M.length pc) → Calls Try.prog 54 #[.agg #[.int .i64 a, .int .i64 b, .int .i64 c, .slice ao L.length cap], .int .i64 ma, .slice (some ⟨sb, 0, none⟩) 1 1] W fun e w' => RetH W.heap.size n (row (arms a b c L L.length)) e w' ∧ Below W.heap.size W w' := fun sb W h1 h2 h3 => start1_ok a b c 0 ma ao (some ⟨pb, po2, none⟩) cap pc sb 0 L ns M W h1 (.inr ⟨pb, po2, rfl, h2⟩) h3 hr hv n hF (by omega)
  have c3 := fun (W : World) (base g gc : Nat) (vs : Nat → Value) (h1 : Hp W base g n vs (row (arms a b c L L.length))) (h2 : LiesI W pb po2 (fl M)) => apply7_any a b c ma L base g n gc pb po2 pc vs M W hF hma h1 h2 hmn
  rw [hmn] at v1 ⊢
  clear h hp hr hv hF hP hM hll hmn hma
  go_enter Try.func22, Try.ntmps22
  go_wp2_with ((with_reducible refine (v1 _ _ (HL.out.later (by repeat (first | (with_reducible exact Below.refl _ _) | (with_reducible refine Below.setCell ?_ ?_ _) | (with_reducible refine Below.drew ?_) | (with_reducible refine Below.alloc ?_ ?_ _) | omega | (simp <;> omega)))) (HP.out.later (by repeat (first | (with_reducible exact Below.refl _ _) | (with_reducible refine Below.setCell ?_ ?_ _) | (with_reducible refine Below.drew ?_) | (with_reducible refine Below.alloc ?_ ?_ _) | omega | (simp <;> omega)))) (by simp [go_sem])).mono ?_); clear v1; rintro e w1 ⟨⟨g, vs, rfl, hH, hg⟩, hw1⟩; have HH := Lib.hid hH; have s1 := hw1.size; simp at s1; clear hH)
  go_wp2_with ((with_reducible refine (c3 _ _ _ _ _ HH.out (HP.out.later (by repeat (first | (with_reducible exact Below.refl _ _) | (with_reducible refine Below.setCell ?_ ?_ _) | (with_reducible refine Below.drew ?_) | (with_reducible refine Below.alloc ?_ ?_ _) | (with_reducible refine Below.trans ?_ (Below.mono hw1 ?_)) | (with_reducible exact hw1.size) | omega | (simp <;> omega) | (simp <;> (have s := hw1.size; omega)) | (have s0 := hw1.size; (try simp at s0); (try simp); omega))))).mono ?_); clear c3; rintro e w3 ⟨⟨g3, k3, rfl, hb3, hg3⟩, hw3⟩; have HB3 := Lib.hid hb3; clear hb3)
  go_ret2
  exact ⟨⟨g3, k3, rfl, HB3.out, by omega⟩, by repeat (first | (with_reducible exact Below.refl _ _) | (with_reducible refine Below.setCell ?_ ?_ _) | (with_reducible refine Below.drew ?_) | (with_reducible refine Below.alloc ?_ ?_ _) | (with_reducible refine Below.trans ?_ (Below.mono hw3 ?_)) | (with_reducible refine Below.trans ?_ (Below.mono hw1 ?_)) | (with_reducible exact hw3.size) | (with_reducible exact hw1.size) | omega | (simp <;> omega) | (simp <;> (have s := hw3.size; omega)) | (simp <;> (have s := hw1.size; omega)) | (have s0 := hw3.size; (try simp at s0); have s1 := hw1.size; (try simp at s1); (try simp); omega))⟩
end Go.Proofs.Ytojmagooapjohaa

/- Fields with vectors and a mass: the first error of all, as the document's answers find it.
Conditions: the lists lie in memory as it is written at each theorem. -/
namespace Go.Proofs.Ytojmagooapjohaa
set_option linter.unusedVariables false
set_option linter.unusedSimpArgs false
set_option maxRecDepth 1000000
open Go.RowKit
open Um Tm Fm

set_option maxHeartbeats 3200000 in
theorem massive1_any (a b c r0 ma r : Int) (ao po : Option Addr) (cap pc sb so : Nat) (L : List Q) (ns : List Int) (M : List Sp) (w : World) (h : LiesO w ao L) (hp : LiesOI w po (fl M)) (hs : w.cell? ⟨sb, so, none⟩ = some (.slice po M.length pc)) (hr : numsR a b c L ns r0) (hv : ms1 L.length M r0 ma r) (hlen : L.length ≤ 1000000) (hlm : M.length ≤ 1000000) : Calls Try.prog 101 #[.agg #[.int .i64 a, .int .i64 b, .int .i64 c, .slice ao L.length cap], .int .i64 ma, .slice (some ⟨sb, so, none⟩) 1 1] w fun e w' => e = .returned (.int .i64 r) ∧ Below w.heap.size w w' := by
  have hb0 : Below w.heap.size w (w.alloc (.cells #[.int .i64 a, .int .i64 b, .int .i64 c, .slice ao L.length cap] 25)) := by repeat (first | (with_reducible exact Below.refl _ _) | (with_reducible refine Below.setCell ?_ ?_ _) | (with_reducible refine Below.drew ?_) | (with_reducible refine Below.alloc ?_ ?_ _) | omega | (simp <;> omega))
  have H0 := Lib.hid (h.later hb0)
  have P0 := Lib.hid (hp.later hb0)
  have B0 := Lib.hid hb0
  have F0 := Lib.hid (show FBox (w.alloc (.cells #[.int .i64 a, .int .i64 b, .int .i64 c, .slice ao L.length cap] 25)) w.heap.size a b c (.slice ao L.length cap) from ⟨by simp [go_sem], by simp [go_sem], by simp [go_sem], by simp [go_sem], by simp⟩)
  have hsl : sb < w.heap.size := World.block_lt_of_cell? _ _ hs
  have S0 := Lib.hid ((hb0.cell (p := ⟨sb, so, none⟩) hsl).trans hs)
  have zs0 : sb < (w.alloc (.cells #[.int .i64 a, .int .i64 b, .int .i64 c, .slice ao L.length cap] 25)).heap.size := by simp; omega
  have v1 : ∀ (r1 : Int), vS L.length M r0 r1 → ∀ W : World, LiesO W ao L → LiesOI W po (fl M) → Calls Try.prog 132 #[.agg #[.int .i64 a, .int .i64 b, .int .i64 c, .slice ao L.length cap], .slice po M.length pc] W fun e w' => e = .returned (.int .i64 r1) ∧ Below W.heap.size W w' := fun r1 hv W h h2 => refValidate7_any a b c r0 r1 ao po cap pc L ns M W h h2 hr hv hlen hlm
  have im := fun (q : Bool) (W : World) (h : (IsM ma ∧ q = true) ∨ (¬ IsM ma ∧ q = false)) => within7_any ma 1 10 W q (by
    rcases h with ⟨⟨h1, h2⟩, h3⟩ | ⟨h1, h3⟩
    · exact .inl ⟨h1, h2, h3⟩
    · exact .inr ⟨h1, h3⟩)
  obtain ⟨r1, hv1, hc⟩ := hv
  have c1 := v1 r1 hv1
  clear h hp v1 hv1 hr hb0 hs
  have kc := @Tail.cell_re
  have kc1 : ∀ (W : World) (o : Obj) (d : Nat) (os : Array Obj) (a : Addr), a.block ≤ W.heap.size → (Sort.grow (redrawn (W.alloc o) d) os).cell? a = (W.alloc o).cell? a := fun W o d os a h => Tail.cell_re (W.alloc o) d os a (Nat.lt_of_le_of_lt h (by simp))
  rcases hc with ⟨h1, rfl⟩ | ⟨rfl, hc⟩
  · have t1 : (r != 0) = true := by simpa using h1
    clear h1 im
    go_enter Try.func101, Try.ntmps101
    go_wp2
    generalize w.alloc (.cells #[.int .i64 a, .int .i64 b, .int .i64 c, .slice ao L.length cap] 25) = W0 at *
    refine wp_loop_rounds 1 ?_
    obtain ⟨f0, f1, f2, f3, flt⟩ := F0.out
    have sc := S0.out
    rw [rounds_succ]
    go_wp2
    refine Tail.region_tail_below 6 (by kernel_rfl) (by kernel_rfl) ?_
    simp only [List.take_succ_cons, List.take_zero, List.drop_succ_cons, List.drop_zero]
    repeat (go_big_quiet_step (first | (with_reducible exact Calls.regrown_of (c1 _ (liesO_re H0.out _ _) (liesOI_re P0.out _ _)))))
    refine wpQuiet_nil ?_
    intro w1 hw1
    clear f0 f1 f2 f3 flt sc
    have S1 := Lib.hid ((hw1.cell (p := ⟨sb, so, none⟩) zs0).trans S0.out)
    have H1 := Lib.hid (H0.out.later hw1)
    have P1 := Lib.hid (P0.out.later hw1)
    have B1 := Lib.hid (B0.out.trans (hw1.mono B0.out.size))
    have F1 := Lib.hid (F0.out.later hw1)
    have zs1 : sb < w1.heap.size := Nat.lt_of_lt_of_le zs0 hw1.size
    go_wp2
    go_ret
    exact ⟨rfl, B1.out⟩
  · rcases hc with ⟨hm, rfl⟩ | ⟨hm, rfl⟩
    · have im1 := fun W => im false W (.inr ⟨hm, rfl⟩)
      clear hm im
      go_enter Try.func101, Try.ntmps101
      go_wp2
      generalize w.alloc (.cells #[.int .i64 a, .int .i64 b, .int .i64 c, .slice ao L.length cap] 25) = W0 at *
      refine wp_loop_rounds 2 ?_
      obtain ⟨f0, f1, f2, f3, flt⟩ := F0.out
      have sc := S0.out
      rw [rounds_succ]
      go_wp2
      refine Tail.region_tail_below 6 (by kernel_rfl) (by kernel_rfl) ?_
      simp only [List.take_succ_cons, List.take_zero, List.drop_succ_cons, List.drop_zero]
      repeat (go_big_quiet_step (first | (with_reducible exact Calls.regrown_of (c1 _ (liesO_re H0.out _ _) (liesOI_re P0.out _ _)))))
      refine wpQuiet_nil ?_
      intro w1 hw1
      clear f0 f1 f2 f3 flt sc
      have S1 := Lib.hid ((hw1.cell (p := ⟨sb, so, none⟩) zs0).trans S0.out)
      have H1 := Lib.hid (H0.out.later hw1)
      have P1 := Lib.hid (P0.out.later hw1)
      have B1 := Lib.hid (B0.out.trans (hw1.mono B0.out.size))
      have F1 := Lib.hid (F0.out.later hw1)
      have zs1 : sb < w1.heap.size := Nat.lt_of_lt_of_le zs0 hw1.size
      go_wp2
      rw [rounds_succ]
      go_wp2_with ((with_reducible refine (im1 _).mono ?_); rintro e w9 ⟨rfl, rfl⟩)
      go_ret
      exact ⟨rfl, B1.out⟩
    · have im1 := fun W => im true W (.inl ⟨hm, rfl⟩)
      clear hm im
      go_enter Try.func101, Try.ntmps101
      go_wp2
      generalize w.alloc (.cells #[.int .i64 a, .int .i64 b, .int .i64 c, .slice ao L.length cap] 25) = W0 at *
      refine wp_loop_rounds 2 ?_
      obtain ⟨f0, f1, f2, f3, flt⟩ := F0.out
      have sc := S0.out
      rw [rounds_succ]
      go_wp2
      refine Tail.region_tail_below 6 (by kernel_rfl) (by kernel_rfl) ?_
      simp only [List.take_succ_cons, List.take_zero, List.drop_succ_cons, List.drop_zero]
      repeat (go_big_quiet_step (first | (with_reducible exact Calls.regrown_of (c1 _ (liesO_re H0.out _ _) (liesOI_re P0.out _ _)))))
      refine wpQuiet_nil ?_
      intro w1 hw1
      clear f0 f1 f2 f3 flt sc
      have S1 := Lib.hid ((hw1.cell (p := ⟨sb, so, none⟩) zs0).trans S0.out)
      have H1 := Lib.hid (H0.out.later hw1)
      have P1 := Lib.hid (P0.out.later hw1)
      have B1 := Lib.hid (B0.out.trans (hw1.mono B0.out.size))
      have F1 := Lib.hid (F0.out.later hw1)
      have zs1 : sb < w1.heap.size := Nat.lt_of_lt_of_le zs0 hw1.size
      go_wp2
      rw [rounds_succ]
      go_wp2_with ((with_reducible refine (im1 _).mono ?_); rintro e w9 ⟨rfl, rfl⟩)
      go_ret
      exact ⟨rfl, B1.out⟩
set_option maxHeartbeats 3200000 in
theorem massive2_any (a b c r0 ma r : Int) (ao po qo : Option Addr) (cap pc qc sb so : Nat) (L : List Q) (ns : List Int) (M N : List Sp) (w : World) (h : LiesO w ao L) (hp : LiesOI w po (fl M)) (hq : LiesOI w qo (fl N)) (hs : w.cell? ⟨sb, so, none⟩ = some (.slice po M.length pc)) (ht : w.cell? ⟨sb, so + 1, none⟩ = some (.slice qo N.length qc)) (hr : numsR a b c L ns r0) (hv : ms2 L.length M N r0 ma r) (hlen : L.length ≤ 1000000) (hlm : M.length ≤ 1000000) (hln : N.length ≤ 1000000) : Calls Try.prog 101 #[.agg #[.int .i64 a, .int .i64 b, .int .i64 c, .slice ao L.length cap], .int .i64 ma, .slice (some ⟨sb, so, none⟩) 2 2] w fun e w' => e = .returned (.int .i64 r) ∧ Below w.heap.size w w' := by
  have hb0 : Below w.heap.size w (w.alloc (.cells #[.int .i64 a, .int .i64 b, .int .i64 c, .slice ao L.length cap] 25)) := by repeat (first | (with_reducible exact Below.refl _ _) | (with_reducible refine Below.setCell ?_ ?_ _) | (with_reducible refine Below.drew ?_) | (with_reducible refine Below.alloc ?_ ?_ _) | omega | (simp <;> omega))
  have H0 := Lib.hid (h.later hb0)
  have P0 := Lib.hid (hp.later hb0)
  have B0 := Lib.hid hb0
  have F0 := Lib.hid (show FBox (w.alloc (.cells #[.int .i64 a, .int .i64 b, .int .i64 c, .slice ao L.length cap] 25)) w.heap.size a b c (.slice ao L.length cap) from ⟨by simp [go_sem], by simp [go_sem], by simp [go_sem], by simp [go_sem], by simp⟩)
  have hsl : sb < w.heap.size := World.block_lt_of_cell? _ _ hs
  have S0 := Lib.hid ((hb0.cell (p := ⟨sb, so, none⟩) hsl).trans hs)
  have zs0 : sb < (w.alloc (.cells #[.int .i64 a, .int .i64 b, .int .i64 c, .slice ao L.length cap] 25)).heap.size := by simp; omega
  have v1 : ∀ (r1 : Int), vS L.length M r0 r1 → ∀ W : World, LiesO W ao L → LiesOI W po (fl M) → Calls Try.prog 132 #[.agg #[.int .i64 a, .int .i64 b, .int .i64 c, .slice ao L.length cap], .slice po M.length pc] W fun e w' => e = .returned (.int .i64 r1) ∧ Below W.heap.size W w' := fun r1 hv W h h2 => refValidate7_any a b c r0 r1 ao po cap pc L ns M W h h2 hr hv hlen hlm
  have T0 := Lib.hid ((hb0.cell (p := ⟨sb, so + 1, none⟩) hsl).trans ht)
  have Q0 := Lib.hid (hq.later hb0)
  have v2 : ∀ (r1 : Int), vS L.length N r0 r1 → ∀ W : World, LiesO W ao L → LiesOI W qo (fl N) → Calls Try.prog 132 #[.agg #[.int .i64 a, .int .i64 b, .int .i64 c, .slice ao L.length cap], .slice qo N.length qc] W fun e w' => e = .returned (.int .i64 r1) ∧ Below W.heap.size W w' := fun r1 hv W h h2 => refValidate7_any a b c r0 r1 ao qo cap qc L ns N W h h2 hr hv hlen hln
  have im := fun (q : Bool) (W : World) (h : (IsM ma ∧ q = true) ∨ (¬ IsM ma ∧ q = false)) => within7_any ma 1 10 W q (by
    rcases h with ⟨⟨h1, h2⟩, h3⟩ | ⟨h1, h3⟩
    · exact .inl ⟨h1, h2, h3⟩
    · exact .inr ⟨h1, h3⟩)
  obtain ⟨r1, hv1, hc⟩ := hv
  have c1 := v1 r1 hv1
  clear h hp v1 hv1 hr hb0 hs hq ht
  have kc := @Tail.cell_re
  have kc1 : ∀ (W : World) (o : Obj) (d : Nat) (os : Array Obj) (a : Addr), a.block ≤ W.heap.size → (Sort.grow (redrawn (W.alloc o) d) os).cell? a = (W.alloc o).cell? a := fun W o d os a h => Tail.cell_re (W.alloc o) d os a (Nat.lt_of_le_of_lt h (by simp))
  rcases hc with ⟨h1, rfl⟩ | ⟨rfl, hc⟩
  · have t1 : (r != 0) = true := by simpa using h1
    clear h1 im v2
    go_enter Try.func101, Try.ntmps101
    go_wp2
    generalize w.alloc (.cells #[.int .i64 a, .int .i64 b, .int .i64 c, .slice ao L.length cap] 25) = W0 at *
    refine wp_loop_rounds 1 ?_
    obtain ⟨f0, f1, f2, f3, flt⟩ := F0.out
    have sc := S0.out
    have tc := T0.out
    rw [rounds_succ]
    go_wp2
    refine Tail.region_tail_below 6 (by kernel_rfl) (by kernel_rfl) ?_
    simp only [List.take_succ_cons, List.take_zero, List.drop_succ_cons, List.drop_zero]
    repeat (go_big_quiet_step (first | (with_reducible exact Calls.regrown_of (c1 _ (liesO_re H0.out _ _) (liesOI_re P0.out _ _)))))
    refine wpQuiet_nil ?_
    intro w1 hw1
    clear f0 f1 f2 f3 flt sc tc
    have S1 := Lib.hid ((hw1.cell (p := ⟨sb, so, none⟩) zs0).trans S0.out)
    have T1 := Lib.hid ((hw1.cell (p := ⟨sb, so + 1, none⟩) zs0).trans T0.out)
    have H1 := Lib.hid (H0.out.later hw1)
    have P1 := Lib.hid (P0.out.later hw1)
    have Q1 := Lib.hid (Q0.out.later hw1)
    have B1 := Lib.hid (B0.out.trans (hw1.mono B0.out.size))
    have F1 := Lib.hid (F0.out.later hw1)
    have zs1 : sb < w1.heap.size := Nat.lt_of_lt_of_le zs0 hw1.size
    go_wp2
    go_ret
    exact ⟨rfl, B1.out⟩
  · obtain ⟨r2, hv2, hc⟩ := hc
    have c2 := v2 r2 hv2
    clear v2 hv2
    rcases hc with ⟨h1, rfl⟩ | ⟨rfl, hc⟩
    · have t1 : (r != 0) = true := by simpa using h1
      clear h1 im
      go_enter Try.func101, Try.ntmps101
      go_wp2
      generalize w.alloc (.cells #[.int .i64 a, .int .i64 b, .int .i64 c, .slice ao L.length cap] 25) = W0 at *
      refine wp_loop_rounds 2 ?_
      obtain ⟨f0, f1, f2, f3, flt⟩ := F0.out
      have sc := S0.out
      have tc := T0.out
      rw [rounds_succ]
      go_wp2
      refine Tail.region_tail_below 6 (by kernel_rfl) (by kernel_rfl) ?_
      simp only [List.take_succ_cons, List.take_zero, List.drop_succ_cons, List.drop_zero]
      repeat (go_big_quiet_step (first | (with_reducible exact Calls.regrown_of (c1 _ (liesO_re H0.out _ _) (liesOI_re P0.out _ _)))))
      refine wpQuiet_nil ?_
      intro w1 hw1
      clear f0 f1 f2 f3 flt sc tc
      have S1 := Lib.hid ((hw1.cell (p := ⟨sb, so, none⟩) zs0).trans S0.out)
      have T1 := Lib.hid ((hw1.cell (p := ⟨sb, so + 1, none⟩) zs0).trans T0.out)
      have H1 := Lib.hid (H0.out.later hw1)
      have P1 := Lib.hid (P0.out.later hw1)
      have Q1 := Lib.hid (Q0.out.later hw1)
      have B1 := Lib.hid (B0.out.trans (hw1.mono B0.out.size))
      have F1 := Lib.hid (F0.out.later hw1)
      have zs1 : sb < w1.heap.size := Nat.lt_of_lt_of_le zs0 hw1.size
      go_wp2
      obtain ⟨f0, f1, f2, f3, flt⟩ := F1.out
      have sc := S1.out
      have tc := T1.out
      rw [rounds_succ]
      go_wp2
      refine Tail.region_tail_below 6 (by kernel_rfl) (by kernel_rfl) ?_
      simp only [List.take_succ_cons, List.take_zero, List.drop_succ_cons, List.drop_zero]
      repeat (go_big_quiet_step (first | (with_reducible exact Calls.regrown_of (c2 _ (liesO_re H1.out _ _) (liesOI_re Q1.out _ _)))))
      refine wpQuiet_nil ?_
      intro w2 hw2
      clear f0 f1 f2 f3 flt sc tc
      have S2 := Lib.hid ((hw2.cell (p := ⟨sb, so, none⟩) zs1).trans S1.out)
      have T2 := Lib.hid ((hw2.cell (p := ⟨sb, so + 1, none⟩) zs1).trans T1.out)
      have H2 := Lib.hid (H1.out.later hw2)
      have P2 := Lib.hid (P1.out.later hw2)
      have Q2 := Lib.hid (Q1.out.later hw2)
      have B2 := Lib.hid (B1.out.trans (hw2.mono B1.out.size))
      have F2 := Lib.hid (F1.out.later hw2)
      have zs2 : sb < w2.heap.size := Nat.lt_of_lt_of_le zs1 hw2.size
      go_wp2
      go_ret
      exact ⟨rfl, B2.out⟩
    · rcases hc with ⟨hm, rfl⟩ | ⟨hm, rfl⟩
      · have im1 := fun W => im false W (.inr ⟨hm, rfl⟩)
        clear hm im
        go_enter Try.func101, Try.ntmps101
        go_wp2
        generalize w.alloc (.cells #[.int .i64 a, .int .i64 b, .int .i64 c, .slice ao L.length cap] 25) = W0 at *
        refine wp_loop_rounds 3 ?_
        obtain ⟨f0, f1, f2, f3, flt⟩ := F0.out
        have sc := S0.out
        have tc := T0.out
        rw [rounds_succ]
        go_wp2
        refine Tail.region_tail_below 6 (by kernel_rfl) (by kernel_rfl) ?_
        simp only [List.take_succ_cons, List.take_zero, List.drop_succ_cons, List.drop_zero]
        repeat (go_big_quiet_step (first | (with_reducible exact Calls.regrown_of (c1 _ (liesO_re H0.out _ _) (liesOI_re P0.out _ _)))))
        refine wpQuiet_nil ?_
        intro w1 hw1
        clear f0 f1 f2 f3 flt sc tc
        have S1 := Lib.hid ((hw1.cell (p := ⟨sb, so, none⟩) zs0).trans S0.out)
        have T1 := Lib.hid ((hw1.cell (p := ⟨sb, so + 1, none⟩) zs0).trans T0.out)
        have H1 := Lib.hid (H0.out.later hw1)
        have P1 := Lib.hid (P0.out.later hw1)
        have Q1 := Lib.hid (Q0.out.later hw1)
        have B1 := Lib.hid (B0.out.trans (hw1.mono B0.out.size))
        have F1 := Lib.hid (F0.out.later hw1)
        have zs1 : sb < w1.heap.size := Nat.lt_of_lt_of_le zs0 hw1.size
        go_wp2
        obtain ⟨f0, f1, f2, f3, flt⟩ := F1.out
        have sc := S1.out
        have tc := T1.out
        rw [rounds_succ]
        go_wp2
        refine Tail.region_tail_below 6 (by kernel_rfl) (by kernel_rfl) ?_
        simp only [List.take_succ_cons, List.take_zero, List.drop_succ_cons, List.drop_zero]
        repeat (go_big_quiet_step (first | (with_reducible exact Calls.regrown_of (c2 _ (liesO_re H1.out _ _) (liesOI_re Q1.out _ _)))))
        refine wpQuiet_nil ?_
        intro w2 hw2
        clear f0 f1 f2 f3 flt sc tc
        have S2 := Lib.hid ((hw2.cell (p := ⟨sb, so, none⟩) zs1).trans S1.out)
        have T2 := Lib.hid ((hw2.cell (p := ⟨sb, so + 1, none⟩) zs1).trans T1.out)
        have H2 := Lib.hid (H1.out.later hw2)
        have P2 := Lib.hid (P1.out.later hw2)
        have Q2 := Lib.hid (Q1.out.later hw2)
        have B2 := Lib.hid (B1.out.trans (hw2.mono B1.out.size))
        have F2 := Lib.hid (F1.out.later hw2)
        have zs2 : sb < w2.heap.size := Nat.lt_of_lt_of_le zs1 hw2.size
        go_wp2
        rw [rounds_succ]
        go_wp2_with ((with_reducible refine (im1 _).mono ?_); rintro e w9 ⟨rfl, rfl⟩)
        go_ret
        exact ⟨rfl, B2.out⟩
      · have im1 := fun W => im true W (.inl ⟨hm, rfl⟩)
        clear hm im
        go_enter Try.func101, Try.ntmps101
        go_wp2
        generalize w.alloc (.cells #[.int .i64 a, .int .i64 b, .int .i64 c, .slice ao L.length cap] 25) = W0 at *
        refine wp_loop_rounds 3 ?_
        obtain ⟨f0, f1, f2, f3, flt⟩ := F0.out
        have sc := S0.out
        have tc := T0.out
        rw [rounds_succ]
        go_wp2
        refine Tail.region_tail_below 6 (by kernel_rfl) (by kernel_rfl) ?_
        simp only [List.take_succ_cons, List.take_zero, List.drop_succ_cons, List.drop_zero]
        repeat (go_big_quiet_step (first | (with_reducible exact Calls.regrown_of (c1 _ (liesO_re H0.out _ _) (liesOI_re P0.out _ _)))))
        refine wpQuiet_nil ?_
        intro w1 hw1
        clear f0 f1 f2 f3 flt sc tc
        have S1 := Lib.hid ((hw1.cell (p := ⟨sb, so, none⟩) zs0).trans S0.out)
        have T1 := Lib.hid ((hw1.cell (p := ⟨sb, so + 1, none⟩) zs0).trans T0.out)
        have H1 := Lib.hid (H0.out.later hw1)
        have P1 := Lib.hid (P0.out.later hw1)
        have Q1 := Lib.hid (Q0.out.later hw1)
        have B1 := Lib.hid (B0.out.trans (hw1.mono B0.out.size))
        have F1 := Lib.hid (F0.out.later hw1)
        have zs1 : sb < w1.heap.size := Nat.lt_of_lt_of_le zs0 hw1.size
        go_wp2
        obtain ⟨f0, f1, f2, f3, flt⟩ := F1.out
        have sc := S1.out
        have tc := T1.out
        rw [rounds_succ]
        go_wp2
        refine Tail.region_tail_below 6 (by kernel_rfl) (by kernel_rfl) ?_
        simp only [List.take_succ_cons, List.take_zero, List.drop_succ_cons, List.drop_zero]
        repeat (go_big_quiet_step (first | (with_reducible exact Calls.regrown_of (c2 _ (liesO_re H1.out _ _) (liesOI_re Q1.out _ _)))))
        refine wpQuiet_nil ?_
        intro w2 hw2
        clear f0 f1 f2 f3 flt sc tc
        have S2 := Lib.hid ((hw2.cell (p := ⟨sb, so, none⟩) zs1).trans S1.out)
        have T2 := Lib.hid ((hw2.cell (p := ⟨sb, so + 1, none⟩) zs1).trans T1.out)
        have H2 := Lib.hid (H1.out.later hw2)
        have P2 := Lib.hid (P1.out.later hw2)
        have Q2 := Lib.hid (Q1.out.later hw2)
        have B2 := Lib.hid (B1.out.trans (hw2.mono B1.out.size))
        have F2 := Lib.hid (F1.out.later hw2)
        have zs2 : sb < w2.heap.size := Nat.lt_of_lt_of_le zs1 hw2.size
        go_wp2
        rw [rounds_succ]
        go_wp2_with ((with_reducible refine (im1 _).mono ?_); rintro e w9 ⟨rfl, rfl⟩)
        go_ret
        exact ⟨rfl, B2.out⟩
end Go.Proofs.Ytojmagooapjohaa

/- Dot, as the program and the document's answers find it.
Conditions: the lists lie in memory as it is written at each theorem. -/
namespace Go.Proofs.Ytojmagooapjohaa
set_option linter.unusedVariables false
set_option linter.unusedSimpArgs false
set_option maxRecDepth 1000000
open Go.RowKit
open Um Tm Fm

/-- the first error of a field and two vectors -/
def d2R (m : Nat) (M N : List Sp) (r0 r : Int) : Prop := ∃ r1, vS m M r0 r1 ∧ ((r1 ≠ 0 ∧ r = r1) ∨ (r1 = 0 ∧ vS m N r0 r))
theorem d2R_ex (m : Nat) (M N : List Sp) (r0 : Int) : ∃ r, d2R m M N r0 r := by
  obtain ⟨r1, h1⟩ := vS_ex m M r0
  by_cases h : r1 = 0
  · obtain ⟨r, hr⟩ := vS_ex m N r0; exact ⟨r, r1, h1, .inr ⟨h, hr⟩⟩
  · exact ⟨r1, r1, h1, .inl ⟨h, rfl⟩⟩
/-- what Dot answers -/
def dotR (M N : List Sp) (r v : Int) : Prop := (r ≠ 0 ∧ v = 0) ∨ (r = 0 ∧ v = wrap64 (dotL M N))
theorem dotR_ex (M N : List Sp) (r : Int) : ∃ v, dotR M N r v := by
  by_cases h : r = 0
  · exact ⟨_, .inr ⟨h, rfl⟩⟩
  · exact ⟨0, .inl ⟨h, rfl⟩⟩
theorem d2R_ok {m : Nat} {M N : List Sp} {r0 : Int} (h : d2R m M N r0 0) : M.length = N.length := by
  obtain ⟨r1, h1, ⟨h2, h3⟩ | ⟨rfl, h3⟩⟩ := h
  · exact absurd h3.symm h2
  · have := (vS_ok h1).2.1; have := (vS_ok h3).2.1; omega
end Go.Proofs.Ytojmagooapjohaa

/- Dot, as the document's answers find it; how long a field and its vectors are.
Conditions: the lists lie in memory as it is written at each theorem. -/
namespace Go.Proofs.Ytojmagooapjohaa
set_option linter.unusedVariables false
set_option linter.unusedSimpArgs false
set_option maxRecDepth 1000000
open Go.RowKit
open Um Tm Fm

theorem d2R_ms {m : Nat} {M N : List Sp} {r0 r : Int} (h : d2R m M N r0 r) : ms2 m M N r0 1 r := by
  obtain ⟨r1, h1, ⟨h2, h3⟩ | ⟨rfl, h3⟩⟩ := h
  · exact ⟨r1, h1, .inl ⟨h2, h3⟩⟩
  · refine ⟨0, h1, .inr ⟨rfl, r, h3, ?_⟩⟩
    by_cases h : r = 0
    · exact .inr ⟨h, .inr ⟨⟨by decide, by decide⟩, h⟩⟩
    · exact .inl ⟨h, rfl⟩
theorem two_cells (w : World) (u v : Value) (T : TypeId) : (w.alloc (.cells #[u, v] T)).cell? ⟨w.heap.size, 0, none⟩ = some u ∧ (w.alloc (.cells #[u, v] T)).cell? ⟨w.heap.size, 0 + 1, none⟩ = some v := by simp [go_sem]
end Go.Proofs.Ytojmagooapjohaa

/- How two vectors are compared, as the document's answers do it.
Conditions: those written at each theorem. -/
namespace Go.Proofs.Ytojmagooapjohaa
set_option linter.unusedVariables false
set_option linter.unusedSimpArgs false
set_option maxRecDepth 1000000
open Go.RowKit
open Um Tm Fm

theorem infoI4 : ∃ i, Try.prog.info? 3 = some i := Option.isSome_iff_exists.1 (by kernel_rfl)
theorem cellsS1 : Try.prog.cellsOf 3 = 1 := by kernel_rfl
theorem eqS (x y : Sp) (W : World) : Sem.run Try.prog (Op.equalIn 10000 95 (.agg #[.int .i64 x.a, .int .i64 x.b, .int .i64 x.c, .int .i64 x.d]) (.agg #[.int .i64 y.a, .int .i64 y.b, .int .i64 y.c, .int .i64 y.d])) W = .ok (decide (x = y)) W := by
  obtain ⟨i, hi⟩ := infoI4
  have h := run_equalIn_array W 9999 #[.int .i64 x.a, .int .i64 x.b, .int .i64 x.c, .int .i64 x.d] #[.int .i64 y.a, .int .i64 y.b, .int .i64 y.c, .int .i64 y.d] Try.underlying95 hi
  rw [show (10000 : Nat) = 9999 + 1 from rfl, h, cellsS1, show List.range 4 = [0, 1, 2, 3] from rfl]
  have key : (x = y) = (x.a = y.a ∧ x.b = y.b ∧ x.c = y.c ∧ x.d = y.d) := propext ⟨fun h => by subst h; exact ⟨rfl, rfl, rfl, rfl⟩, fun ⟨a, b, c, d⟩ => ext_S a b c d⟩
  simp only [key]
  by_cases h1 : x.a = y.a
  · by_cases h2 : x.b = y.b
    · by_cases h3 : x.c = y.c
      · by_cases h4 : x.d = y.d
        · simp [Op.eqItems, go_sem, h1, h2, h3, h4]
        · simp [Op.eqItems, go_sem, h1, h2, h3, h4]
      · simp [Op.eqItems, go_sem, h1, h2, h3]
    · simp [Op.eqItems, go_sem, h1, h2]
  · simp [Op.eqItems, go_sem, h1]
theorem take_snocS {M : List Sp} {k : Nat} (h : k < M.length) : M.take (k + 1) = M.take k ++ [M[k]] := by
  rw [List.take_succ_eq_append_getElem h]
set_option maxHeartbeats 3200000 in
theorem sameS_some (b1 o1 c1 b2 o2 c2 n : Nat) (A B : List Sp) (w : World) (r : Bool) (h1 : LiesI w b1 o1 (fl A)) (h2 : LiesI w b2 o2 (fl B)) (hn1 : A.length = n) (hn2 : B.length = n) (hlen : n ≤ 1000000) (hr : r = decide (A = B)) :
    Calls Try.prog 23 #[.slice (some ⟨b1, o1, none⟩) n c1, .slice (some ⟨b2, o2, none⟩) n c2] w fun e w' => e = .returned (.bool r) ∧ Below w.heap.size w w' := by
  have H1 := Lib.hid h1
  have H2 := Lib.hid h2
  have HR := Lib.hid hr
  have N1 := Lib.hid hn1
  have N2 := Lib.hid hn2
  have qe := eqS
  clear h1 h2 hr hn1 hn2
  have kc := @Tail.cell_re
  have kc1 : ∀ (W : World) (o : Obj) (d : Nat) (os : Array Obj) (a : Addr), a.block ≤ W.heap.size → (Sort.grow (redrawn (W.alloc o) d) os).cell? a = (W.alloc o).cell? a := fun W o d os a h => Tail.cell_re (W.alloc o) d os a (Nat.lt_of_le_of_lt h (by simp))
  go_enter Try.func23, Try.ntmps23
  go_wp2
  go_loopw [5] (fun q wr => ∃ k : Nat, k ≤ n ∧ q = .int .i64 k ∧ Hid (A.take k = B.take k) ∧ Below w.heap.size w wr) (fun q _ => n - (intOf q).toNat)
  case atStart => exact ⟨0, by omega, rfl, Lib.hid rfl, Below.refl _ _⟩
  case round =>
    obtain ⟨k, hk, rfl, heq, hb⟩ := hrel
    by_cases hlt : k < n
    · have i1 : k < A.length := by have := N1.out; omega
      have i2 : k < B.length := by have := N2.out; omega
      have t1 := take_snocS i1
      have t2 := take_snocS i2
      obtain ⟨x0, x1, x2, x3⟩ := four_at (H1.out.later hb) (List.getElem?_eq_getElem i1)
      obtain ⟨y0, y1, y2, y3⟩ := four_at (H2.out.later hb) (List.getElem?_eq_getElem i2)
      have lb1 : b1 < wr.heap.size := World.block_lt_of_cell? wr _ x0
      have lb2 : b2 < wr.heap.size := World.block_lt_of_cell? wr _ y0
      generalize A[k] = x at *
      generalize B[k] = y at *
      have T1 := Lib.hid t1
      have T2 := Lib.hid t2
      clear t1 t2 i1 i2
      by_cases he : x = y
      · have hd : decide (x = y) = true := decide_eq_true he
        have HE := Lib.hid he
        clear he
        go_wp2
        refine Tail.region_below (by kernel_rfl) (by kernel_rfl) ?_
        repeat (go_big_quiet_step (fail))
        refine wpQuiet_nil ?_
        intro w1 hw1
        go_wp2
        exact ⟨⟨k + 1, by omega, by go_num, Lib.hid (by rw [T1.out, T2.out, heq.out, HE.out]), by repeat (first | (with_reducible exact Below.refl _ _) | (with_reducible refine Below.setCell ?_ ?_ _) | (with_reducible refine Below.drew ?_) | (with_reducible refine Below.alloc ?_ ?_ _) | (with_reducible refine Below.trans ?_ (Below.mono hw1 ?_)) | (with_reducible refine Below.trans ?_ (Below.mono hb ?_)) | (with_reducible exact hw1.size) | (with_reducible exact hb.size) | omega | (simp <;> omega) | (simp <;> (have s := hw1.size; omega)) | (simp <;> (have s := hb.size; omega)) | (have s0 := hw1.size; (try simp at s0); have s1 := hb.size; (try simp at s1); (try simp); omega))⟩, by simp [intOf]; omega⟩
      · have hd : decide (x = y) = false := decide_eq_false he
        have hf : r = false := by
          rw [HR.out]
          refine decide_eq_false fun h => he ?_
          have h1 := T1.out
          rw [h, T2.out] at h1
          have := List.append_cancel_left h1
          simp at this
          exact this.symm
        subst hf
        clear he
        go_wp2
        refine Tail.region_below (by kernel_rfl) (by kernel_rfl) ?_
        repeat (go_big_quiet_step (fail))
        refine wpQuiet_nil ?_
        intro w1 hw1
        go_wp2
        go_ret
        exact ⟨rfl, by repeat (first | (with_reducible exact Below.refl _ _) | (with_reducible refine Below.setCell ?_ ?_ _) | (with_reducible refine Below.drew ?_) | (with_reducible refine Below.alloc ?_ ?_ _) | (with_reducible refine Below.trans ?_ (Below.mono hw1 ?_)) | (with_reducible refine Below.trans ?_ (Below.mono hb ?_)) | (with_reducible exact hw1.size) | (with_reducible exact hb.size) | omega | (simp <;> omega) | (simp <;> (have s := hw1.size; omega)) | (simp <;> (have s := hb.size; omega)) | (have s0 := hw1.size; (try simp at s0); have s1 := hb.size; (try simp at s1); (try simp); omega))⟩
    · have hf : r = true := by
        rw [HR.out]
        refine decide_eq_true ?_
        have := heq.out
        rwa [List.take_of_length_le (by have := N1.out; omega), List.take_of_length_le (by have := N2.out; omega)] at this
      subst hf
      obtain rfl : k = n := by omega
      go_wp2
      go_ret
      exact ⟨rfl, hb⟩
set_option maxHeartbeats 800000 in
theorem sameS_len (a1 a2 : Option Addr) (c1 c2 n1 n2 : Nat) (w : World) (hn : n1 ≠ n2) :
    Calls Try.prog 23 #[.slice a1 n1 c1, .slice a2 n2 c2] w fun e w' => e = .returned (.bool false) ∧ Below w.heap.size w w' := by
  have hn' : ((n1 : Int) != (n2 : Int)) = true := by simp; omega
  clear hn
  go_enter Try.func23, Try.ntmps23
  go_wp2
  go_ret
  exact ⟨rfl, Below.refl _ _⟩
set_option maxHeartbeats 800000 in
theorem sameS_nil (a1 a2 : Option Addr) (c1 c2 : Nat) (w : World) :
    Calls Try.prog 23 #[.slice a1 0 c1, .slice a2 0 c2] w fun e w' => e = .returned (.bool true) ∧ Below w.heap.size w w' := by
  go_enter Try.func23, Try.ntmps23
  go_wp2
  refine wp_loop_rounds 1 ?_
  rw [rounds_succ]
  go_wp2
  go_ret
  exact ⟨rfl, Below.refl _ _⟩
end Go.Proofs.Ytojmagooapjohaa

/- How large a residual may be, as the program and the document's answers find it.
Conditions: none. -/
namespace Go.Proofs.Ytojmagooapjohaa
set_option linter.unusedVariables false
set_option linter.unusedSimpArgs false
set_option maxRecDepth 1000000
open Go.RowKit
open Um Tm Fm

/-- what is allowed, and the error -/
def alR (a b c m r er : Int) : Prop := (¬ Sz a b c ∧ r = 0 ∧ er = 1) ∨ (Sz a b c ∧ ¬ IsM m ∧ r = 0 ∧ er = 1) ∨ (Sz a b c ∧ IsM m ∧ r = (4 * m + 16) * (4 * m + 16) * 4 * (a * b * c) ∧ er = 0)
theorem alR_ex (a b c m : Int) : ∃ r er, alR a b c m r er := by
  by_cases h : Sz a b c
  · by_cases h1 : IsM m
    · exact ⟨_, _, .inr (.inr ⟨h, h1, rfl, rfl⟩)⟩
    · exact ⟨_, _, .inr (.inl ⟨h, h1, rfl, rfl⟩)⟩
  · exact ⟨_, _, .inl ⟨h, rfl, rfl⟩⟩
theorem isM_cases {m : Int} (h : IsM m) : m = 1 ∨ m = 2 ∨ m = 3 ∨ m = 4 ∨ m = 5 ∨ m = 6 ∨ m = 7 ∨ m = 8 ∨ m = 9 ∨ m = 10 := by
  obtain ⟨h1, h2⟩ := h; omega
set_option maxHeartbeats 3200000 in
theorem allowed_any (a b c m r er : Int) (w : World) (h : alR a b c m r er) : Calls Try.prog 31 #[.agg #[.int .i64 a, .int .i64 b, .int .i64 c], .int .i64 m] w fun e w' => e = .returned (.tuple #[.int .i64 r, .int .i64 er]) ∧ Below w.heap.size w w' := by
  rcases h with ⟨h, rfl, rfl⟩ | ⟨h, hm, rfl, rfl⟩ | ⟨h, hm, rfl, rfl⟩
  · have c1 := fun W : World => sites_any a b c 0 1 W (.inl ⟨h, rfl, rfl⟩)
    clear h
    go_enter Try.func31, Try.ntmps31
    go_wp2_with ((with_reducible refine (c1 _).mono ?_); rintro e w1 ⟨rfl, hw1⟩)
    go_ret2
    exact ⟨rfl, by repeat (first | (with_reducible exact Below.refl _ _) | (with_reducible refine Below.setCell ?_ ?_ _) | (with_reducible refine Below.drew ?_) | (with_reducible refine Below.alloc ?_ ?_ _) | (with_reducible refine Below.trans ?_ (Below.mono hw1 ?_)) | (with_reducible exact hw1.size) | omega | (simp <;> omega) | (simp <;> (have s := hw1.size; omega)) | (have s0 := hw1.size; (try simp at s0); (try simp); omega))⟩
  · have c1 := fun W : World => sites_any a b c (a * b * c) 0 W (.inr ⟨h, rfl, rfl⟩)
    have c2 := fun W : World => isMass_any m W false (.inr ⟨hm, rfl⟩)
    clear h hm
    go_enter Try.func31, Try.ntmps31
    go_wp2_with (first | ((with_reducible refine (c1 _).mono ?_); rintro e w1 ⟨rfl, hw1⟩) | ((with_reducible refine (c2 _).mono ?_); rintro e w2 ⟨rfl, rfl⟩))
    go_ret2
    exact ⟨rfl, by repeat (first | (with_reducible exact Below.refl _ _) | (with_reducible refine Below.setCell ?_ ?_ _) | (with_reducible refine Below.drew ?_) | (with_reducible refine Below.alloc ?_ ?_ _) | (with_reducible refine Below.trans ?_ (Below.mono hw1 ?_)) | (with_reducible exact hw1.size) | omega | (simp <;> omega) | (simp <;> (have s := hw1.size; omega)) | (have s0 := hw1.size; (try simp at s0); (try simp); omega))⟩
  · have c1 := fun W : World => sites_any a b c (a * b * c) 0 W (.inr ⟨h, rfl, rfl⟩)
    have c2 := fun W : World => isMass_any m W true (.inl ⟨hm, rfl⟩)
    obtain ⟨-, -, p3, -⟩ := mul_rng h.a1 h.a4 h.b1 h.b4 h.c1 h.c4
    have p4 := h.p
    clear h
    generalize a * b * c = n at *
    rcases isM_cases hm with rfl | rfl | rfl | rfl | rfl | rfl | rfl | rfl | rfl | rfl
    all_goals
      clear hm
      go_enter Try.func31, Try.ntmps31
      go_wp2_with (first | ((with_reducible refine (c1 _).mono ?_); rintro e w1 ⟨rfl, hw1⟩) | ((with_reducible refine (c2 _).mono ?_); rintro e w2 ⟨rfl, rfl⟩))
      go_ret2
      exact ⟨rfl, by repeat (first | (with_reducible exact Below.refl _ _) | (with_reducible refine Below.setCell ?_ ?_ _) | (with_reducible refine Below.drew ?_) | (with_reducible refine Below.alloc ?_ ?_ _) | (with_reducible refine Below.trans ?_ (Below.mono hw1 ?_)) | (with_reducible exact hw1.size) | omega | (simp <;> omega) | (simp <;> (have s := hw1.size; omega)) | (have s0 := hw1.size; (try simp at s0); (try simp); omega))⟩
theorem four_prod (k : Int) {a b c : Int} (h : Sz a b c) (hk0 : 0 ≤ k) (hk : k ≤ 12544) : (0 ≤ k * a ∧ k * a ≤ 50176) ∧ (0 ≤ k * a * b ∧ k * a * b ≤ 200704) ∧ k * a * b * c = k * (a * b * c) ∧ (0 ≤ k * a * b * c ∧ k * a * b * c ≤ 802816) := by
  rcases four h.a1 h.a4 with rfl | rfl | rfl | rfl <;> rcases four h.b1 h.b4 with rfl | rfl | rfl | rfl <;> rcases four h.c1 h.c4 with rfl | rfl | rfl | rfl <;> omega
set_option maxHeartbeats 3200000 in
theorem refAllowed_any (a b c m r er : Int) (w : World) (h : alR a b c m r er) : Calls Try.prog 62 #[.agg #[.int .i64 a, .int .i64 b, .int .i64 c], .int .i64 m] w fun e w' => e = .returned (.tuple #[.int .i64 r, .int .i64 er]) ∧ Below w.heap.size w w' := by
  rcases h with ⟨h, rfl, rfl⟩ | ⟨h, hm, rfl, rfl⟩ | ⟨h, hm, rfl, rfl⟩
  · have c1 := fun W : World => refSizes_any a b c 1 W (.inr ⟨h, rfl⟩)
    clear h
    go_enter Try.func62, Try.ntmps62
    go_wp2_with ((with_reducible refine (c1 _).mono ?_); rintro e w1 ⟨rfl, hw1⟩)
    go_ret2
    exact ⟨rfl, by repeat (first | (with_reducible exact Below.refl _ _) | (with_reducible refine Below.setCell ?_ ?_ _) | (with_reducible refine Below.drew ?_) | (with_reducible refine Below.alloc ?_ ?_ _) | (with_reducible refine Below.trans ?_ (Below.mono hw1 ?_)) | (with_reducible exact hw1.size) | omega | (simp <;> omega) | (simp <;> (have s := hw1.size; omega)) | (have s0 := hw1.size; (try simp at s0); (try simp); omega))⟩
  · have c1 := fun W : World => refSizes_any a b c 0 W (.inl ⟨h, rfl⟩)
    have c2 := fun W : World => within7_any m 1 10 W false (.inr ⟨hm, rfl⟩)
    clear h hm
    go_enter Try.func62, Try.ntmps62
    go_wp2_with (first | ((with_reducible refine (c1 _).mono ?_); rintro e w1 ⟨rfl, hw1⟩; have hc1 := Tail.cells hw1; have zw10 := Nat.lt_of_lt_of_le (n := w.heap.size) (by simp <;> omega) hw1.size) | ((with_reducible refine (c2 _).mono ?_); rintro e w2 ⟨rfl, rfl⟩))
    go_ret2
    exact ⟨rfl, by repeat (first | (with_reducible exact Below.refl _ _) | (with_reducible refine Below.setCell ?_ ?_ _) | (with_reducible refine Below.drew ?_) | (with_reducible refine Below.alloc ?_ ?_ _) | (with_reducible refine Below.trans ?_ (Below.mono hw1 ?_)) | (with_reducible exact hw1.size) | omega | (simp <;> omega) | (simp <;> (have s := hw1.size; omega)) | (have s0 := hw1.size; (try simp at s0); (try simp); omega))⟩
  · have c1 := fun W : World => refSizes_any a b c 0 W (.inl ⟨h, rfl⟩)
    have c2 := fun W : World => within7_any m 1 10 W true (.inl ⟨hm.1, hm.2, rfl⟩)
    rcases isM_cases hm with rfl | rfl | rfl | rfl | rfl | rfl | rfl | rfl | rfl | rfl
    · obtain ⟨⟨k0, k1⟩, ⟨k2, k3⟩, k4, ⟨k5, k6⟩⟩ := four_prod 1600 h (by decide) (by decide)
      have K4 := Lib.hid k4
      have x1 := h.a1
      have x4 := h.a4
      clear h hm k4
      go_enter Try.func62, Try.ntmps62
      go_wp2_with (first | ((with_reducible refine (c1 _).mono ?_); rintro e w1 ⟨rfl, hw1⟩; have hc1 := Tail.cells hw1; have zw10 := Nat.lt_of_lt_of_le (n := w.heap.size) (by simp <;> omega) hw1.size) | ((with_reducible refine (c2 _).mono ?_); rintro e w2 ⟨rfl, rfl⟩))
      go_ret2
      exact ⟨by rw [show (4 * (1 : Int) + 16) * (4 * 1 + 16) * 4 = 1600 from rfl, ← K4.out]; rfl, by repeat (first | (with_reducible exact Below.refl _ _) | (with_reducible refine Below.setCell ?_ ?_ _) | (with_reducible refine Below.drew ?_) | (with_reducible refine Below.alloc ?_ ?_ _) | (with_reducible refine Below.trans ?_ (Below.mono hw1 ?_)) | (with_reducible exact hw1.size) | omega | (simp <;> omega) | (simp <;> (have s := hw1.size; omega)) | (have s0 := hw1.size; (try simp at s0); (try simp); omega))⟩
    · obtain ⟨⟨k0, k1⟩, ⟨k2, k3⟩, k4, ⟨k5, k6⟩⟩ := four_prod 2304 h (by decide) (by decide)
      have K4 := Lib.hid k4
      have x1 := h.a1
      have x4 := h.a4
      clear h hm k4
      go_enter Try.func62, Try.ntmps62
      go_wp2_with (first | ((with_reducible refine (c1 _).mono ?_); rintro e w1 ⟨rfl, hw1⟩; have hc1 := Tail.cells hw1; have zw10 := Nat.lt_of_lt_of_le (n := w.heap.size) (by simp <;> omega) hw1.size) | ((with_reducible refine (c2 _).mono ?_); rintro e w2 ⟨rfl, rfl⟩))
      go_ret2
      exact ⟨by rw [show (4 * (2 : Int) + 16) * (4 * 2 + 16) * 4 = 2304 from rfl, ← K4.out]; rfl, by repeat (first | (with_reducible exact Below.refl _ _) | (with_reducible refine Below.setCell ?_ ?_ _) | (with_reducible refine Below.drew ?_) | (with_reducible refine Below.alloc ?_ ?_ _) | (with_reducible refine Below.trans ?_ (Below.mono hw1 ?_)) | (with_reducible exact hw1.size) | omega | (simp <;> omega) | (simp <;> (have s := hw1.size; omega)) | (have s0 := hw1.size; (try simp at s0); (try simp); omega))⟩
    · obtain ⟨⟨k0, k1⟩, ⟨k2, k3⟩, k4, ⟨k5, k6⟩⟩ := four_prod 3136 h (by decide) (by decide)
      have K4 := Lib.hid k4
      have x1 := h.a1
      have x4 := h.a4
      clear h hm k4
      go_enter Try.func62, Try.ntmps62
      go_wp2_with (first | ((with_reducible refine (c1 _).mono ?_); rintro e w1 ⟨rfl, hw1⟩; have hc1 := Tail.cells hw1; have zw10 := Nat.lt_of_lt_of_le (n := w.heap.size) (by simp <;> omega) hw1.size) | ((with_reducible refine (c2 _).mono ?_); rintro e w2 ⟨rfl, rfl⟩))
      go_ret2
      exact ⟨by rw [show (4 * (3 : Int) + 16) * (4 * 3 + 16) * 4 = 3136 from rfl, ← K4.out]; rfl, by repeat (first | (with_reducible exact Below.refl _ _) | (with_reducible refine Below.setCell ?_ ?_ _) | (with_reducible refine Below.drew ?_) | (with_reducible refine Below.alloc ?_ ?_ _) | (with_reducible refine Below.trans ?_ (Below.mono hw1 ?_)) | (with_reducible exact hw1.size) | omega | (simp <;> omega) | (simp <;> (have s := hw1.size; omega)) | (have s0 := hw1.size; (try simp at s0); (try simp); omega))⟩
    · obtain ⟨⟨k0, k1⟩, ⟨k2, k3⟩, k4, ⟨k5, k6⟩⟩ := four_prod 4096 h (by decide) (by decide)
      have K4 := Lib.hid k4
      have x1 := h.a1
      have x4 := h.a4
      clear h hm k4
      go_enter Try.func62, Try.ntmps62
      go_wp2_with (first | ((with_reducible refine (c1 _).mono ?_); rintro e w1 ⟨rfl, hw1⟩; have hc1 := Tail.cells hw1; have zw10 := Nat.lt_of_lt_of_le (n := w.heap.size) (by simp <;> omega) hw1.size) | ((with_reducible refine (c2 _).mono ?_); rintro e w2 ⟨rfl, rfl⟩))
      go_ret2
      exact ⟨by rw [show (4 * (4 : Int) + 16) * (4 * 4 + 16) * 4 = 4096 from rfl, ← K4.out]; rfl, by repeat (first | (with_reducible exact Below.refl _ _) | (with_reducible refine Below.setCell ?_ ?_ _) | (with_reducible refine Below.drew ?_) | (with_reducible refine Below.alloc ?_ ?_ _) | (with_reducible refine Below.trans ?_ (Below.mono hw1 ?_)) | (with_reducible exact hw1.size) | omega | (simp <;> omega) | (simp <;> (have s := hw1.size; omega)) | (have s0 := hw1.size; (try simp at s0); (try simp); omega))⟩
    · obtain ⟨⟨k0, k1⟩, ⟨k2, k3⟩, k4, ⟨k5, k6⟩⟩ := four_prod 5184 h (by decide) (by decide)
      have K4 := Lib.hid k4
      have x1 := h.a1
      have x4 := h.a4
      clear h hm k4
      go_enter Try.func62, Try.ntmps62
      go_wp2_with (first | ((with_reducible refine (c1 _).mono ?_); rintro e w1 ⟨rfl, hw1⟩; have hc1 := Tail.cells hw1; have zw10 := Nat.lt_of_lt_of_le (n := w.heap.size) (by simp <;> omega) hw1.size) | ((with_reducible refine (c2 _).mono ?_); rintro e w2 ⟨rfl, rfl⟩))
      go_ret2
      exact ⟨by rw [show (4 * (5 : Int) + 16) * (4 * 5 + 16) * 4 = 5184 from rfl, ← K4.out]; rfl, by repeat (first | (with_reducible exact Below.refl _ _) | (with_reducible refine Below.setCell ?_ ?_ _) | (with_reducible refine Below.drew ?_) | (with_reducible refine Below.alloc ?_ ?_ _) | (with_reducible refine Below.trans ?_ (Below.mono hw1 ?_)) | (with_reducible exact hw1.size) | omega | (simp <;> omega) | (simp <;> (have s := hw1.size; omega)) | (have s0 := hw1.size; (try simp at s0); (try simp); omega))⟩
    · obtain ⟨⟨k0, k1⟩, ⟨k2, k3⟩, k4, ⟨k5, k6⟩⟩ := four_prod 6400 h (by decide) (by decide)
      have K4 := Lib.hid k4
      have x1 := h.a1
      have x4 := h.a4
      clear h hm k4
      go_enter Try.func62, Try.ntmps62
      go_wp2_with (first | ((with_reducible refine (c1 _).mono ?_); rintro e w1 ⟨rfl, hw1⟩; have hc1 := Tail.cells hw1; have zw10 := Nat.lt_of_lt_of_le (n := w.heap.size) (by simp <;> omega) hw1.size) | ((with_reducible refine (c2 _).mono ?_); rintro e w2 ⟨rfl, rfl⟩))
      go_ret2
      exact ⟨by rw [show (4 * (6 : Int) + 16) * (4 * 6 + 16) * 4 = 6400 from rfl, ← K4.out]; rfl, by repeat (first | (with_reducible exact Below.refl _ _) | (with_reducible refine Below.setCell ?_ ?_ _) | (with_reducible refine Below.drew ?_) | (with_reducible refine Below.alloc ?_ ?_ _) | (with_reducible refine Below.trans ?_ (Below.mono hw1 ?_)) | (with_reducible exact hw1.size) | omega | (simp <;> omega) | (simp <;> (have s := hw1.size; omega)) | (have s0 := hw1.size; (try simp at s0); (try simp); omega))⟩
    · obtain ⟨⟨k0, k1⟩, ⟨k2, k3⟩, k4, ⟨k5, k6⟩⟩ := four_prod 7744 h (by decide) (by decide)
      have K4 := Lib.hid k4
      have x1 := h.a1
      have x4 := h.a4
      clear h hm k4
      go_enter Try.func62, Try.ntmps62
      go_wp2_with (first | ((with_reducible refine (c1 _).mono ?_); rintro e w1 ⟨rfl, hw1⟩; have hc1 := Tail.cells hw1; have zw10 := Nat.lt_of_lt_of_le (n := w.heap.size) (by simp <;> omega) hw1.size) | ((with_reducible refine (c2 _).mono ?_); rintro e w2 ⟨rfl, rfl⟩))
      go_ret2
      exact ⟨by rw [show (4 * (7 : Int) + 16) * (4 * 7 + 16) * 4 = 7744 from rfl, ← K4.out]; rfl, by repeat (first | (with_reducible exact Below.refl _ _) | (with_reducible refine Below.setCell ?_ ?_ _) | (with_reducible refine Below.drew ?_) | (with_reducible refine Below.alloc ?_ ?_ _) | (with_reducible refine Below.trans ?_ (Below.mono hw1 ?_)) | (with_reducible exact hw1.size) | omega | (simp <;> omega) | (simp <;> (have s := hw1.size; omega)) | (have s0 := hw1.size; (try simp at s0); (try simp); omega))⟩
    · obtain ⟨⟨k0, k1⟩, ⟨k2, k3⟩, k4, ⟨k5, k6⟩⟩ := four_prod 9216 h (by decide) (by decide)
      have K4 := Lib.hid k4
      have x1 := h.a1
      have x4 := h.a4
      clear h hm k4
      go_enter Try.func62, Try.ntmps62
      go_wp2_with (first | ((with_reducible refine (c1 _).mono ?_); rintro e w1 ⟨rfl, hw1⟩; have hc1 := Tail.cells hw1; have zw10 := Nat.lt_of_lt_of_le (n := w.heap.size) (by simp <;> omega) hw1.size) | ((with_reducible refine (c2 _).mono ?_); rintro e w2 ⟨rfl, rfl⟩))
      go_ret2
      exact ⟨by rw [show (4 * (8 : Int) + 16) * (4 * 8 + 16) * 4 = 9216 from rfl, ← K4.out]; rfl, by repeat (first | (with_reducible exact Below.refl _ _) | (with_reducible refine Below.setCell ?_ ?_ _) | (with_reducible refine Below.drew ?_) | (with_reducible refine Below.alloc ?_ ?_ _) | (with_reducible refine Below.trans ?_ (Below.mono hw1 ?_)) | (with_reducible exact hw1.size) | omega | (simp <;> omega) | (simp <;> (have s := hw1.size; omega)) | (have s0 := hw1.size; (try simp at s0); (try simp); omega))⟩
    · obtain ⟨⟨k0, k1⟩, ⟨k2, k3⟩, k4, ⟨k5, k6⟩⟩ := four_prod 10816 h (by decide) (by decide)
      have K4 := Lib.hid k4
      have x1 := h.a1
      have x4 := h.a4
      clear h hm k4
      go_enter Try.func62, Try.ntmps62
      go_wp2_with (first | ((with_reducible refine (c1 _).mono ?_); rintro e w1 ⟨rfl, hw1⟩; have hc1 := Tail.cells hw1; have zw10 := Nat.lt_of_lt_of_le (n := w.heap.size) (by simp <;> omega) hw1.size) | ((with_reducible refine (c2 _).mono ?_); rintro e w2 ⟨rfl, rfl⟩))
      go_ret2
      exact ⟨by rw [show (4 * (9 : Int) + 16) * (4 * 9 + 16) * 4 = 10816 from rfl, ← K4.out]; rfl, by repeat (first | (with_reducible exact Below.refl _ _) | (with_reducible refine Below.setCell ?_ ?_ _) | (with_reducible refine Below.drew ?_) | (with_reducible refine Below.alloc ?_ ?_ _) | (with_reducible refine Below.trans ?_ (Below.mono hw1 ?_)) | (with_reducible exact hw1.size) | omega | (simp <;> omega) | (simp <;> (have s := hw1.size; omega)) | (have s0 := hw1.size; (try simp at s0); (try simp); omega))⟩
    · obtain ⟨⟨k0, k1⟩, ⟨k2, k3⟩, k4, ⟨k5, k6⟩⟩ := four_prod 12544 h (by decide) (by decide)
      have K4 := Lib.hid k4
      have x1 := h.a1
      have x4 := h.a4
      clear h hm k4
      go_enter Try.func62, Try.ntmps62
      go_wp2_with (first | ((with_reducible refine (c1 _).mono ?_); rintro e w1 ⟨rfl, hw1⟩; have hc1 := Tail.cells hw1; have zw10 := Nat.lt_of_lt_of_le (n := w.heap.size) (by simp <;> omega) hw1.size) | ((with_reducible refine (c2 _).mono ?_); rintro e w2 ⟨rfl, rfl⟩))
      go_ret2
      exact ⟨by rw [show (4 * (10 : Int) + 16) * (4 * 10 + 16) * 4 = 12544 from rfl, ← K4.out]; rfl, by repeat (first | (with_reducible exact Below.refl _ _) | (with_reducible refine Below.setCell ?_ ?_ _) | (with_reducible refine Below.drew ?_) | (with_reducible refine Below.alloc ?_ ?_ _) | (with_reducible refine Below.trans ?_ (Below.mono hw1 ?_)) | (with_reducible exact hw1.size) | omega | (simp <;> omega) | (simp <;> (have s := hw1.size; omega)) | (have s0 := hw1.size; (try simp at s0); (try simp); omega))⟩
end Go.Proofs.Ytojmagooapjohaa
