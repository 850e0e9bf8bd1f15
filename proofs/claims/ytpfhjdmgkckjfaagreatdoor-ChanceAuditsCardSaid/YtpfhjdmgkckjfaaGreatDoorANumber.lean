/- The numbers of small units, as the program and the document's answers find them.
Conditions: none. -/
import Derived.Test.YtpfhjdmgkckjfaaGreatDoorASmall
import Derived.Test.YtpfhjdmgkckjfaaGreatDoorARefSmall
namespace Go.Proofs.YtpfhjdmgkckjfaaGreatDoor
set_option linter.unusedVariables false
set_option linter.unusedSimpArgs false
open Go.RowKit
open Um

/-- A unit's box is read. -/
structure URead (w : World) (b : Nat) (x : Q) : Prop where
  ca : w.cell? ⟨b, 0, none⟩ = some (.int .i64 x.a)
  cb : w.cell? ⟨b, 1, none⟩ = some (.int .i64 x.b)
  cc : w.cell? ⟨b, 2, none⟩ = some (.int .i64 x.c)
  cd : w.cell? ⟨b, 3, none⟩ = some (.int .i64 x.d)
  cn : w.cell? ⟨b, 4, none⟩ = some (.int .i64 x.n)
  lt : b < w.heap.size
theorem URead.later {w w1 : World} {b : Nat} {x : Q} (h : URead w b x) (hb : Below w.heap.size w w1) : URead w1 b x :=
  ⟨(hb.cell h.lt).trans h.ca, (hb.cell h.lt).trans h.cb, (hb.cell h.lt).trans h.cc, (hb.cell h.lt).trans h.cd, (hb.cell h.lt).trans h.cn, Nat.lt_of_lt_of_le h.lt hb.size⟩

/-- the number of a unit, if it is small -/
def NumR (u : Q) (r : Int) (b : Bool) : Prop := (∃ k : Nat, k < 24 ∧ small k = u ∧ (∀ j : Nat, j < k → small j ≠ u) ∧ r = k ∧ b = true) ∨ ((∀ j : Nat, j < 24 → small j ≠ u) ∧ r = 0 ∧ b = false)
theorem NumR.here {u : Q} {r : Int} {b : Bool} (h : NumR u r b) (k : Nat) (hk : k < 24) (he : small k = u) (hn : ∀ j : Nat, j < k → small j ≠ u) : r = k ∧ b = true := by
  rcases h with ⟨j, hj, e, hb, h1, h2⟩ | ⟨h, _⟩
  · have : j = k := by
      rcases Nat.lt_trichotomy j k with h | h | h
      · exact absurd e (hn j h)
      · exact h
      · exact absurd he (hb k h)
    subst this
    exact ⟨h1, h2⟩
  · exact absurd he (h k hk)
theorem NumR.none {u : Q} {r : Int} {b : Bool} (h : NumR u r b) (hn : ∀ j : Nat, j < 24 → small j ≠ u) : r = 0 ∧ b = false := by
  rcases h with ⟨j, hj, e, _⟩ | ⟨_, h⟩
  · exact absurd e (hn j hj)
  · exact h
theorem NumR.ex (u : Q) : ∃ (r : Int) (b : Bool), NumR u r b := by
  have key : ∀ n : Nat, n ≤ 24 → (∃ k : Nat, k < n ∧ small k = u ∧ ∀ j : Nat, j < k → small j ≠ u) ∨ ∀ j : Nat, j < n → small j ≠ u := by
    intro n
    induction n with
    | zero => intro _; exact .inr fun j hj => by omega
    | succ n ih =>
      intro hn
      rcases ih (by omega) with ⟨k, h1, h2, h3⟩ | h
      · exact .inl ⟨k, by omega, h2, h3⟩
      · by_cases e : small n = u
        · exact .inl ⟨n, by omega, e, h⟩
        · refine .inr fun j hj => ?_
          rcases Nat.lt_or_ge j n with h4 | h4
          · exact h j h4
          · obtain rfl : j = n := by omega
            exact e
  rcases key 24 (by omega) with ⟨k, h1, h2, h3⟩ | h
  · exact ⟨k, true, .inl ⟨k, h1, h2, h3, rfl, rfl⟩⟩
  · exact ⟨0, false, .inr ⟨h, rfl, rfl⟩⟩
theorem parts_differ {x y : Q} (he : ¬ x = y) : ¬ x.a = y.a ∨ (x.a = y.a ∧ ¬ x.b = y.b) ∨ (x.a = y.a ∧ x.b = y.b ∧ ¬ x.c = y.c) ∨ (x.a = y.a ∧ x.b = y.b ∧ x.c = y.c ∧ ¬ x.d = y.d) ∨ (x.a = y.a ∧ x.b = y.b ∧ x.c = y.c ∧ x.d = y.d ∧ ¬ x.n = y.n) := by
  by_cases h1 : x.a = y.a
  · by_cases h2 : x.b = y.b
    · by_cases h3 : x.c = y.c
      · by_cases h4 : x.d = y.d
        · refine .inr (.inr (.inr (.inr ⟨h1, h2, h3, h4, fun h5 => he ?_⟩)))
          cases x
          cases y
          simp at h1 h2 h3 h4 h5
          simp [h1, h2, h3, h4, h5]
        · exact .inr (.inr (.inr (.inl ⟨h1, h2, h3, h4⟩)))
      · exact .inr (.inr (.inl ⟨h1, h2, h3⟩))
    · exact .inr (.inl ⟨h1, h2⟩)
  · exact .inl h1

set_option maxRecDepth 100000 in
set_option maxHeartbeats 1600000 in
theorem number_ok (x : Q) (r : Int) (b : Bool) (w : World) (h : V x) (hr : NumR x r b) : Calls Tryz.prog 56 #[.agg #[.int .i64 x.a, .int .i64 x.b, .int .i64 x.c, .int .i64 x.d, .int .i64 x.n]] w fun e w' => e = .returned (.tuple #[.int .i64 r, .bool b, .int .i64 0]) ∧ Below w.heap.size w w' := by
  have c1 := fun W : World => validate_ok x W h
  have HR := Lib.hid hr
  clear h hr
  go_enter Tryz.func56, Tryz.ntmps56
  go_wp2_with ((with_reducible refine (c1 _).mono ?_); rintro e w1 ⟨rfl, hw1⟩)
  have hU : URead (w.alloc (.cells #[.int .i64 x.a, .int .i64 x.b, .int .i64 x.c, .int .i64 x.d, .int .i64 x.n] 73)) w.heap.size x := ⟨by simp [go_sem], by simp [go_sem], by simp [go_sem], by simp [go_sem], by simp [go_sem], by simp⟩
  have hU1 := hU.later hw1
  have hB1 : Below w.heap.size w w1 := by repeat (first | (with_reducible exact Below.refl _ _) | (with_reducible refine Below.setCell ?_ ?_ _) | (with_reducible refine Below.drew ?_) | (with_reducible refine Below.alloc ?_ ?_ _) | (with_reducible refine Below.trans ?_ (Below.mono hw1 ?_)) | (with_reducible exact hw1.size) | omega | (simp <;> omega) | (simp <;> (have s := hw1.size; omega)) | (have s0 := hw1.size; (try simp at s0); (try simp); omega))
  clear hU hw1
  go_loopw [14] (fun q wr => ∃ k : Nat, k ≤ 24 ∧ q = .int .i64 k ∧ Hid (∀ j : Nat, j < k → small j ≠ x) ∧ URead wr w.heap.size x ∧ Below w.heap.size w wr) (fun q _ => 24 - (intOf q).toNat)
  case atStart => exact ⟨0, by omega, rfl, Lib.hid (fun j hj => by omega), hU1, hB1⟩
  case round =>
    obtain ⟨k, hk, rfl, hno, hu, hb⟩ := hrel
    clear hU1 hB1
    have hbs := hb.size
    have HU := Lib.hid hu
    by_cases hlt : k < 24
    · have c2 := fun W : World => small_any (k : Int) W (by omega) (by omega)
      have hsu : w.heap.size < wr.heap.size := hu.lt
      clear hu
      by_cases he : small k = x
      · obtain ⟨rfl, rfl⟩ := HR.out.here k hlt he hno.out
        rw [he] at c2
        clear he hno
        obtain ⟨u0, u1, u2, u3, u4, ul⟩ := HU.out
        go_wp2_with ((with_reducible refine (c2 _).mono ?_); rintro e w2 ⟨rfl, hw2⟩; obtain ⟨v0, v1, v2, v3, v4, vl⟩ := HU.out.later hw2)
        go_ret3
        exact ⟨rfl, by repeat (first | (with_reducible exact Below.refl _ _) | (with_reducible refine Below.setCell ?_ ?_ _) | (with_reducible refine Below.drew ?_) | (with_reducible refine Below.alloc ?_ ?_ _) | (with_reducible refine Below.trans ?_ (Below.mono hw2 ?_)) | (with_reducible refine Below.trans ?_ (Below.mono hb ?_)) | (with_reducible exact hw2.size) | (with_reducible exact hb.size) | omega | (simp <;> omega) | (simp <;> (have s := hw2.size; omega)) | (simp <;> (have s := hb.size; omega)) | (have s0 := hw2.size; (try simp at s0); have s1 := hb.size; (try simp at s1); (try simp); omega))⟩
      · have hno' : Hid (∀ j : Nat, j < k + 1 → small j ≠ x) := Lib.hid (fun j hj => by
          rcases Nat.lt_or_ge j k with h | h
          · exact hno.out j h
          · obtain rfl : j = k := by omega
            exact he)
        have hd := parts_differ he
        generalize small (k : Int) = s at *
        clear he
        obtain ⟨u0, u1, u2, u3, u4, ul⟩ := HU.out
        rcases hd with e1 | ⟨e1, e2⟩ | ⟨e1, e2, e3⟩ | ⟨e1, e2, e3, e4⟩ | ⟨e1, e2, e3, e4, e5⟩
        all_goals
          go_wp2_with ((with_reducible refine (c2 _).mono ?_); rintro e w2 ⟨rfl, hw2⟩; obtain ⟨v0, v1, v2, v3, v4, vl⟩ := HU.out.later hw2)
          exact ⟨⟨k + 1, by omega, by go_num, hno', (HU.out.later hw2).later ((Below.refl _ _).alloc (Nat.le_refl _) _), by repeat (first | (with_reducible exact Below.refl _ _) | (with_reducible refine Below.setCell ?_ ?_ _) | (with_reducible refine Below.drew ?_) | (with_reducible refine Below.alloc ?_ ?_ _) | (with_reducible refine Below.trans ?_ (Below.mono hw2 ?_)) | (with_reducible refine Below.trans ?_ (Below.mono hb ?_)) | (with_reducible exact hw2.size) | (with_reducible exact hb.size) | omega | (simp <;> omega) | (simp <;> (have s := hw2.size; omega)) | (simp <;> (have s := hb.size; omega)) | (have s0 := hw2.size; (try simp at s0); have s1 := hb.size; (try simp at s1); (try simp); omega))⟩, by simp [intOf]; omega⟩
    · obtain rfl : k = 24 := by omega
      obtain ⟨rfl, rfl⟩ := HR.out.none hno.out
      go_wp2
      go_ret3
      exact ⟨rfl, hb⟩

set_option maxRecDepth 100000 in
set_option maxHeartbeats 1600000 in
theorem refNumber_ok (x : Q) (r : Int) (b : Bool) (w : World) (h : V x) (hr : NumR x r b) : Calls Tryz.prog 156 #[.agg #[.int .i64 x.a, .int .i64 x.b, .int .i64 x.c, .int .i64 x.d, .int .i64 x.n]] w fun e w' => e = .returned (.tuple #[.int .i64 r, .bool b, .int .i64 0]) ∧ Below w.heap.size w w' := by
  have c1 := fun W : World => refValidate_any x W 0 (.inl ⟨h, rfl⟩)
  have HR := Lib.hid hr
  clear h hr
  go_enter Tryz.func156, Tryz.ntmps156
  go_wp2_with ((with_reducible refine (c1 _).mono ?_); rintro e w1 ⟨rfl, hw1⟩)
  have hU : URead (w.alloc (.cells #[.int .i64 x.a, .int .i64 x.b, .int .i64 x.c, .int .i64 x.d, .int .i64 x.n] 73)) w.heap.size x := ⟨by simp [go_sem], by simp [go_sem], by simp [go_sem], by simp [go_sem], by simp [go_sem], by simp⟩
  have hU1 := hU.later hw1
  have hB1 : Below w.heap.size w w1 := by repeat (first | (with_reducible exact Below.refl _ _) | (with_reducible refine Below.setCell ?_ ?_ _) | (with_reducible refine Below.drew ?_) | (with_reducible refine Below.alloc ?_ ?_ _) | (with_reducible refine Below.trans ?_ (Below.mono hw1 ?_)) | (with_reducible exact hw1.size) | omega | (simp <;> omega) | (simp <;> (have s := hw1.size; omega)) | (have s0 := hw1.size; (try simp at s0); (try simp); omega))
  clear hU hw1
  go_loopw [6] (fun q wr => ∃ k : Nat, k ≤ 24 ∧ q = .int .i64 k ∧ Hid (∀ j : Nat, j < k → small j ≠ x) ∧ URead wr w.heap.size x ∧ Below w.heap.size w wr) (fun q _ => 24 - (intOf q).toNat)
  case atStart => exact ⟨0, by omega, rfl, Lib.hid (fun j hj => by omega), hU1, hB1⟩
  case round =>
    obtain ⟨k, hk, rfl, hno, hu, hb⟩ := hrel
    clear hU1 hB1
    have hbs := hb.size
    have HU := Lib.hid hu
    by_cases hlt : k < 24
    · have c2 := fun W : World => refSmall_any (k : Int) W (by omega) (by omega)
      have hsu : w.heap.size < wr.heap.size := hu.lt
      clear hu
      by_cases he : small k = x
      · obtain ⟨rfl, rfl⟩ := HR.out.here k hlt he hno.out
        rw [he] at c2
        clear he hno
        obtain ⟨u0, u1, u2, u3, u4, ul⟩ := HU.out
        go_wp2_with ((with_reducible refine (c2 _).mono ?_); rintro e w2 ⟨rfl, hw2⟩; obtain ⟨v0, v1, v2, v3, v4, vl⟩ := HU.out.later hw2)
        go_ret3
        exact ⟨rfl, by repeat (first | (with_reducible exact Below.refl _ _) | (with_reducible refine Below.setCell ?_ ?_ _) | (with_reducible refine Below.drew ?_) | (with_reducible refine Below.alloc ?_ ?_ _) | (with_reducible refine Below.trans ?_ (Below.mono hw2 ?_)) | (with_reducible refine Below.trans ?_ (Below.mono hb ?_)) | (with_reducible exact hw2.size) | (with_reducible exact hb.size) | omega | (simp <;> omega) | (simp <;> (have s := hw2.size; omega)) | (simp <;> (have s := hb.size; omega)) | (have s0 := hw2.size; (try simp at s0); have s1 := hb.size; (try simp at s1); (try simp); omega))⟩
      · have hno' : Hid (∀ j : Nat, j < k + 1 → small j ≠ x) := Lib.hid (fun j hj => by
          rcases Nat.lt_or_ge j k with h | h
          · exact hno.out j h
          · obtain rfl : j = k := by omega
            exact he)
        have hd := parts_differ he
        generalize small (k : Int) = s at *
        clear he
        obtain ⟨u0, u1, u2, u3, u4, ul⟩ := HU.out
        rcases hd with e1 | ⟨e1, e2⟩ | ⟨e1, e2, e3⟩ | ⟨e1, e2, e3, e4⟩ | ⟨e1, e2, e3, e4, e5⟩
        all_goals
          go_wp2_with ((with_reducible refine (c2 _).mono ?_); rintro e w2 ⟨rfl, hw2⟩; obtain ⟨v0, v1, v2, v3, v4, vl⟩ := HU.out.later hw2)
          exact ⟨⟨k + 1, by omega, by go_num, hno', (HU.out.later hw2).later ((Below.refl _ _).alloc (Nat.le_refl _) _), by repeat (first | (with_reducible exact Below.refl _ _) | (with_reducible refine Below.setCell ?_ ?_ _) | (with_reducible refine Below.drew ?_) | (with_reducible refine Below.alloc ?_ ?_ _) | (with_reducible refine Below.trans ?_ (Below.mono hw2 ?_)) | (with_reducible refine Below.trans ?_ (Below.mono hb ?_)) | (with_reducible exact hw2.size) | (with_reducible exact hb.size) | omega | (simp <;> omega) | (simp <;> (have s := hw2.size; omega)) | (simp <;> (have s := hb.size; omega)) | (have s0 := hw2.size; (try simp at s0); have s1 := hb.size; (try simp at s1); (try simp); omega))⟩, by simp [intOf]; omega⟩
    · obtain rfl : k = 24 := by omega
      obtain ⟨rfl, rfl⟩ := HR.out.none hno.out
      go_wp2
      go_ret3
      exact ⟨rfl, hb⟩

end Go.Proofs.YtpfhjdmgkckjfaaGreatDoor
