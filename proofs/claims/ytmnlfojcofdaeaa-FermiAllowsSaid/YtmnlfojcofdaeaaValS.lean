/- Fields with vectors and a mass: which errors they have, as the program and the document's answers find it.
Conditions: the lists lie in memory as it is written at each theorem. -/
import Derived.Test.YtmnlfojcofdaeaaVecC
namespace Go.Proofs.Ytmnlfojcofdaeaa
set_option linter.unusedVariables false
set_option linter.unusedSimpArgs false
set_option maxRecDepth 1000000
open Go.RowKit
open Um Tm Fm

theorem nums7_ex (a b c : Int) (L : List Q) : ∃ ns r, numsR a b c L ns r := by
  obtain ⟨r, hr⟩ := fldR_ex a b c L
  by_cases h0 : r = 0
  · subst h0
    obtain ⟨ns, q, hq⟩ := smR_ex L
    cases q with
    | true => exact ⟨ns, 0, .inr ⟨hr, .inl ⟨hq, rfl⟩⟩⟩
    | false => exact ⟨ns, 7, .inr ⟨hr, .inr ⟨hq, rfl⟩⟩⟩
  · exact ⟨[], r, .inl ⟨hr, h0, rfl⟩⟩
theorem nums7_any (a b c r : Int) (ao : Option Addr) (cap : Nat) (L : List Q) (ns : List Int) (w : World) (h : LiesO w ao L) (hr : numsR a b c L ns r) (hlen : L.length ≤ 1000000) : Calls Try.prog 53 #[.agg #[.int .i64 a, .int .i64 b, .int .i64 c, .slice ao L.length cap]] w fun e w' => (∃ v, e = .returned (.tuple #[v, .int .i64 r])) ∧ Below w.heap.size w w' := by
  rcases hr with ⟨hr, h0, rfl⟩ | ⟨hr, ⟨hq, rfl⟩ | ⟨hq, rfl⟩⟩
  · exact (numbers_bad a b c r ao cap L w h hr h0 hlen).mono fun e w' ⟨he, hb⟩ => ⟨⟨_, he⟩, hb⟩
  · exact (numbers_ok a b c ao cap L ns true w h hr hq).mono fun e w' ⟨hh, hb⟩ => by
      rcases hh with ⟨-, a2, k, he, -⟩ | ⟨hf, -⟩
      · exact ⟨⟨_, he⟩, hb⟩
      · cases hf
  · exact (numbers_ok a b c ao cap L ns false w h hr hq).mono fun e w' ⟨hh, hb⟩ => by
      rcases hh with ⟨hf, -⟩ | ⟨-, he⟩
      · cases hf
      · exact ⟨⟨_, he⟩, hb⟩
theorem nums_three {a b c r : Int} {L : List Q} {ns : List Int} (h : numsR a b c L ns r) (h0 : r = 0) : Sz a b c ∧ (L.length : Int) = 3 * (a * b * c) := by
  rcases h with ⟨_, h1, _⟩ | ⟨hr, _⟩
  · exact absurd h0 h1
  · have := fldR_ok hr; exact ⟨this.1, this.2.1⟩
/-- how large an entry of a vector may be -/
def mE : Int := 268435456
/-- the error of a field with m links, whose own error is r0, and a vector -/
def vS (m : Nat) (M : List Sp) (r0 r : Int) : Prop := (r0 ≠ 0 ∧ r = r0) ∨ (r0 = 0 ∧ vecR m M mE r)
theorem vS_ex (m : Nat) (M : List Sp) (r0 : Int) : ∃ r, vS m M r0 r := by
  by_cases h : r0 = 0
  · obtain ⟨r, hr⟩ := vecR_ex m M mE; exact ⟨r, .inr ⟨h, hr⟩⟩
  · exact ⟨r0, .inl ⟨h, rfl⟩⟩
theorem vS_ok {m : Nat} {M : List Sp} {r0 : Int} (h : vS m M r0 0) : r0 = 0 ∧ M.length * 3 = m ∧ AllE mE M := by
  rcases h with ⟨h1, h2⟩ | ⟨h1, h2⟩
  · exact absurd h2.symm h1
  · rcases h2 with ⟨_, h⟩ | ⟨h3, h4, _⟩ | ⟨_, _, h⟩
    · cases h
    · exact ⟨h1, h3, h4⟩
    · cases h
set_option maxHeartbeats 1600000 in
theorem validate7_any (a b c r0 r : Int) (ao po : Option Addr) (cap pc : Nat) (L : List Q) (ns : List Int) (M : List Sp) (w : World) (h : LiesO w ao L) (hp : LiesOI w po (fl M)) (hr : numsR a b c L ns r0) (hv : vS L.length M r0 r) (hlen : L.length ≤ 1000000) (hlm : M.length ≤ 1000000) : Calls Try.prog 21 #[.agg #[.int .i64 a, .int .i64 b, .int .i64 c, .slice ao L.length cap], .slice po M.length pc] w fun e w' => e = .returned (.int .i64 r) ∧ Below w.heap.size w w' := by
  have H := Lib.hid h
  have HP := Lib.hid hp
  have c1 : ∀ W : World, LiesO W ao L → Calls Try.prog 53 #[.agg #[.int .i64 a, .int .i64 b, .int .i64 c, .slice ao L.length cap]] W fun e w' => (∃ v, e = .returned (.tuple #[v, .int .i64 r0])) ∧ Below W.heap.size W w' := fun W h => nums7_any a b c r0 ao cap L ns W h hr hlen
  rcases hv with ⟨h0, rfl⟩ | ⟨rfl, hv⟩
  · have h0' : (r != 0) = true := by simpa using h0
    clear h hp hr h0
    go_enter Try.func21, Try.ntmps21
    go_wp2_with ((with_reducible refine (c1 _ (H.out.later (by repeat (first | (with_reducible exact Below.refl _ _) | (with_reducible refine Below.setCell ?_ ?_ _) | (with_reducible refine Below.drew ?_) | (with_reducible refine Below.alloc ?_ ?_ _) | omega | (simp <;> omega))))).mono ?_); rintro e w1 ⟨⟨v, rfl⟩, hw1⟩)
    go_ret
    exact ⟨rfl, by repeat (first | (with_reducible exact Below.refl _ _) | (with_reducible refine Below.setCell ?_ ?_ _) | (with_reducible refine Below.drew ?_) | (with_reducible refine Below.alloc ?_ ?_ _) | (with_reducible refine Below.trans ?_ (Below.mono hw1 ?_)) | (with_reducible exact hw1.size) | omega | (simp <;> omega) | (simp <;> (have s := hw1.size; omega)) | (have s0 := hw1.size; (try simp at s0); (try simp); omega))⟩
  · have h3 := (nums_three hr rfl).2
    rcases hv with ⟨h1, rfl⟩ | hv
    · have t1 : ((M.length : Int) != (L.length : Int) / 3) = true := by simp; omega
      clear h hp hr h1 h3
      go_enter Try.func21, Try.ntmps21
      go_wp2_with ((with_reducible refine (c1 _ (H.out.later (by repeat (first | (with_reducible exact Below.refl _ _) | (with_reducible refine Below.setCell ?_ ?_ _) | (with_reducible refine Below.drew ?_) | (with_reducible refine Below.alloc ?_ ?_ _) | omega | (simp <;> omega))))).mono ?_); rintro e w1 ⟨⟨v, rfl⟩, hw1⟩; have hc1 := Tail.cells hw1; have zw10 := Nat.lt_of_lt_of_le (n := w.heap.size) (by simp <;> omega) hw1.size)
      go_ret
      exact ⟨rfl, by repeat (first | (with_reducible exact Below.refl _ _) | (with_reducible refine Below.setCell ?_ ?_ _) | (with_reducible refine Below.drew ?_) | (with_reducible refine Below.alloc ?_ ?_ _) | (with_reducible refine Below.trans ?_ (Below.mono hw1 ?_)) | (with_reducible exact hw1.size) | omega | (simp <;> omega) | (simp <;> (have s := hw1.size; omega)) | (have s0 := hw1.size; (try simp at s0); (try simp); omega))⟩
    · obtain ⟨q, hq, hqr⟩ : ∃ q : Bool, inR mE M q ∧ r = if q then 0 else 1 := by
        rcases hv with ⟨-, h1, h2⟩ | ⟨-, h1, h2⟩
        · exact ⟨true, .inl ⟨h1, rfl⟩, h2⟩
        · exact ⟨false, .inr ⟨h1, rfl⟩, h2⟩
      have t1 : ((M.length : Int) != (L.length : Int) / 3) = false := by
        rcases hv with ⟨h1, -⟩ | ⟨h1, -⟩ <;> (simp; omega)
      have c2 : ∀ W : World, LiesOI W po (fl M) → Calls Try.prog 54 #[.slice po M.length pc, .int .i64 268435456] W fun e w' => e = .returned (.bool q) ∧ Below W.heap.size W w' := fun W h => isWithin7_any 268435456 po M pc W q h (by decide) (by decide) hlm hq
      clear h hp hr hv h3 hq
      cases q
      all_goals
        obtain rfl := hqr
        go_enter Try.func21, Try.ntmps21
        go_wp2_with (first | ((with_reducible refine (c1 _ (H.out.later (by repeat (first | (with_reducible exact Below.refl _ _) | (with_reducible refine Below.setCell ?_ ?_ _) | (with_reducible refine Below.drew ?_) | (with_reducible refine Below.alloc ?_ ?_ _) | omega | (simp <;> omega))))).mono ?_); clear c1; rintro e w1 ⟨⟨v, rfl⟩, hw1⟩; have hc1 := Tail.cells hw1; have zw10 := Nat.lt_of_lt_of_le (n := w.heap.size) (by simp <;> omega) hw1.size) | ((with_reducible refine (c2 _ (HP.out.later (by repeat (first | (with_reducible exact Below.refl _ _) | (with_reducible refine Below.setCell ?_ ?_ _) | (with_reducible refine Below.drew ?_) | (with_reducible refine Below.alloc ?_ ?_ _) | (with_reducible refine Below.trans ?_ (Below.mono hw1 ?_)) | (with_reducible exact hw1.size) | omega | (simp <;> omega) | (simp <;> (have s := hw1.size; omega)) | (have s0 := hw1.size; (try simp at s0); (try simp); omega))))).mono ?_); rintro e w2 ⟨rfl, hw2⟩))
        go_ret
        exact ⟨rfl, by repeat (first | (with_reducible exact Below.refl _ _) | (with_reducible refine Below.setCell ?_ ?_ _) | (with_reducible refine Below.drew ?_) | (with_reducible refine Below.alloc ?_ ?_ _) | (with_reducible refine Below.trans ?_ (Below.mono hw2 ?_)) | (with_reducible refine Below.trans ?_ (Below.mono hw1 ?_)) | (with_reducible exact hw2.size) | (with_reducible exact hw1.size) | omega | (simp <;> omega) | (simp <;> (have s := hw2.size; omega)) | (simp <;> (have s := hw1.size; omega)) | (have s0 := hw2.size; (try simp at s0); have s1 := hw1.size; (try simp at s1); (try simp); omega))⟩
set_option maxHeartbeats 1600000 in
theorem refValidate7_any (a b c r0 r : Int) (ao po : Option Addr) (cap pc : Nat) (L : List Q) (ns : List Int) (M : List Sp) (w : World) (h : LiesO w ao L) (hp : LiesOI w po (fl M)) (hr : numsR a b c L ns r0) (hv : vS L.length M r0 r) (hlen : L.length ≤ 1000000) (hlm : M.length ≤ 1000000) : Calls Try.prog 22 #[.agg #[.int .i64 a, .int .i64 b, .int .i64 c, .slice ao L.length cap], .slice po M.length pc] w fun e w' => e = .returned (.int .i64 r) ∧ Below w.heap.size w w' := by
  have H := Lib.hid h
  have HP := Lib.hid hp
  have c1 : ∀ W : World, LiesO W ao L → Calls Try.prog 55 #[.agg #[.int .i64 a, .int .i64 b, .int .i64 c, .slice ao L.length cap]] W fun e w' => e = .returned (.int .i64 r0) ∧ Below W.heap.size W w' := fun W h => little_any a b c r0 ao cap L ns W h hr hlen
  rcases hv with ⟨h0, rfl⟩ | ⟨rfl, hv⟩
  · have h0' : (r != 0) = true := by simpa using h0
    clear h hp hr h0
    go_enter Try.func22, Try.ntmps22
    go_wp2_with ((with_reducible refine (c1 _ (H.out.later (by repeat (first | (with_reducible exact Below.refl _ _) | (with_reducible refine Below.setCell ?_ ?_ _) | (with_reducible refine Below.drew ?_) | (with_reducible refine Below.alloc ?_ ?_ _) | omega | (simp <;> omega))))).mono ?_); rintro e w1 ⟨rfl, hw1⟩)
    go_ret
    exact ⟨rfl, by repeat (first | (with_reducible exact Below.refl _ _) | (with_reducible refine Below.setCell ?_ ?_ _) | (with_reducible refine Below.drew ?_) | (with_reducible refine Below.alloc ?_ ?_ _) | (with_reducible refine Below.trans ?_ (Below.mono hw1 ?_)) | (with_reducible exact hw1.size) | omega | (simp <;> omega) | (simp <;> (have s := hw1.size; omega)) | (have s0 := hw1.size; (try simp at s0); (try simp); omega))⟩
  · have c2 : ∀ W : World, LiesOI W po (fl M) → Calls Try.prog 56 #[.agg #[.int .i64 a, .int .i64 b, .int .i64 c, .slice ao L.length cap], .slice po M.length pc, .int .i64 268435456] W fun e w' => e = .returned (.int .i64 r) ∧ Below W.heap.size W w' := fun W h => vector_any a b c 268435456 r ao po cap pc L M W h (by decide) (by decide) hlm hlen hv
    clear h hp hr hv
    go_enter Try.func22, Try.ntmps22
    go_wp2_with (first | ((with_reducible refine (c1 _ (H.out.later (by repeat (first | (with_reducible exact Below.refl _ _) | (with_reducible refine Below.setCell ?_ ?_ _) | (with_reducible refine Below.drew ?_) | (with_reducible refine Below.alloc ?_ ?_ _) | omega | (simp <;> omega))))).mono ?_); clear c1; rintro e w1 ⟨rfl, hw1⟩; have hc1 := Tail.cells hw1; have zw10 := Nat.lt_of_lt_of_le (n := w.heap.size) (by simp <;> omega) hw1.size) | ((with_reducible refine (c2 _ (HP.out.later (by repeat (first | (with_reducible exact Below.refl _ _) | (with_reducible refine Below.setCell ?_ ?_ _) | (with_reducible refine Below.drew ?_) | (with_reducible refine Below.alloc ?_ ?_ _) | (with_reducible refine Below.trans ?_ (Below.mono hw1 ?_)) | (with_reducible exact hw1.size) | omega | (simp <;> omega) | (simp <;> (have s := hw1.size; omega)) | (have s0 := hw1.size; (try simp at s0); (try simp); omega))))).mono ?_); rintro e w2 ⟨rfl, hw2⟩))
    go_ret
    exact ⟨rfl, by repeat (first | (with_reducible exact Below.refl _ _) | (with_reducible refine Below.setCell ?_ ?_ _) | (with_reducible refine Below.drew ?_) | (with_reducible refine Below.alloc ?_ ?_ _) | (with_reducible refine Below.trans ?_ (Below.mono hw2 ?_)) | (with_reducible refine Below.trans ?_ (Below.mono hw1 ?_)) | (with_reducible exact hw2.size) | (with_reducible exact hw1.size) | omega | (simp <;> omega) | (simp <;> (have s := hw2.size; omega)) | (simp <;> (have s := hw1.size; omega)) | (have s0 := hw2.size; (try simp at s0); have s1 := hw1.size; (try simp at s1); (try simp); omega))⟩
end Go.Proofs.Ytmnlfojcofdaeaa
