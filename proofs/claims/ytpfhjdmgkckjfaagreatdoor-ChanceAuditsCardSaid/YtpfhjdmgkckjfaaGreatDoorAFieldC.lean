/- Which fields are valid, as the program and the document's answers find it.
Conditions: the list lies in memory as it is written at each theorem. -/
import Derived.Test.YtpfhjdmgkckjfaaGreatDoorATorA
import Derived.Test.YtpfhjdmgkckjfaaGreatDoorARows5
namespace Go.Proofs.YtpfhjdmgkckjfaaGreatDoor
set_option linter.unusedVariables false
set_option linter.unusedSimpArgs false
set_option maxRecDepth 1000000
open Go.RowKit
open Um Tm

/-- the error of a unit as a link -/
def LinkR (x : Q) (r : Int) : Prop := (¬ V x ∧ r = 1) ∨ (V x ∧ 5 < x.n ∧ r = 3) ∨ (V x ∧ x.n ≤ 5 ∧ r = 0)
theorem LinkR.ex (x : Q) : ∃ r, LinkR x r := by
  by_cases h : V x
  · by_cases h5 : 5 < x.n
    · exact ⟨3, .inr (.inl ⟨h, h5, rfl⟩)⟩
    · exact ⟨0, .inr (.inr ⟨h, by omega, rfl⟩)⟩
  · exact ⟨1, .inl ⟨h, rfl⟩⟩
theorem LinkR.one {x : Q} {r s : Int} (h : LinkR x r) (k : LinkR x s) : r = s := by
  rcases h with ⟨a, rfl⟩ | ⟨a, b, rfl⟩ | ⟨a, b, rfl⟩ <;> rcases k with ⟨c, rfl⟩ | ⟨c, d, rfl⟩ | ⟨c, d, rfl⟩
  · rfl
  · exact absurd c a
  · exact absurd c a
  · exact absurd a c
  · rfl
  · omega
  · exact absurd a c
  · omega
  · rfl
def LinksR (L : List Q) (r : Int) : Prop := ((∀ (i : Nat) (x : Q), L[i]? = some x → LinkR x 0) ∧ r = 0) ∨ ∃ (k : Nat) (x : Q), L[k]? = some x ∧ LinkR x r ∧ r ≠ 0 ∧ ∀ (i : Nat) (y : Q), i < k → L[i]? = some y → LinkR y 0
theorem links_at {L : List Q} {r : Int} (h : LinksR L r) {k : Nat} (hall : ∀ (i : Nat) (y : Q), i < k → L[i]? = some y → LinkR y 0) (hk : k < L.length) : LinkR L[k] 0 ∨ (LinkR L[k] r ∧ r ≠ 0) := by
  have hx : L[k]? = some L[k] := List.getElem?_eq_getElem hk
  rcases h with ⟨h, _⟩ | ⟨j, x, hj, hr, h0, hb⟩
  · exact .inl (h k _ hx)
  · rcases Nat.lt_trichotomy j k with hlt | he | hlt
    · exact absurd (hr.one (hall j x hlt hj)) h0
    · subst he
      rw [hx] at hj
      simp only [Option.some.injEq] at hj
      rw [hj]
      exact .inr ⟨hr, h0⟩
    · exact .inl (hb k _ hlt hx)
theorem links_end {L : List Q} {r : Int} (h : LinksR L r) (hall : ∀ (i : Nat) (y : Q), i < L.length → L[i]? = some y → LinkR y 0) : r = 0 := by
  rcases h with ⟨_, h⟩ | ⟨j, x, hj, hr, h0, _⟩
  · exact h
  · exact absurd (hr.one (hall j x (List.getElem?_eq_some_iff.1 hj).1 hj)) h0
theorem LinksR.ex (L : List Q) : ∃ r, LinksR L r := by
  have key : ∀ n : Nat, n ≤ L.length → (∀ (i : Nat) (y : Q), i < n → L[i]? = some y → LinkR y 0) ∨ ∃ (k : Nat) (x : Q) (r : Int), L[k]? = some x ∧ LinkR x r ∧ r ≠ 0 ∧ ∀ (i : Nat) (y : Q), i < k → L[i]? = some y → LinkR y 0 := by
    intro n
    induction n with
    | zero => intro _; exact .inl fun i y h => by omega
    | succ n ih =>
      intro hn
      rcases ih (by omega) with h | h
      · obtain ⟨r, hr⟩ := LinkR.ex (L[n]'(by omega))
        by_cases h0 : r = 0
        · subst h0
          refine .inl fun i y hi hy => ?_
          by_cases he : i < n
          · exact h i y he hy
          · obtain rfl : i = n := by omega
            rw [List.getElem?_eq_getElem (by omega)] at hy
            simp only [Option.some.injEq] at hy
            rw [← hy]
            exact hr
        · exact .inr ⟨n, _, r, List.getElem?_eq_getElem (by omega), hr, h0, h⟩
      · exact .inr h
  rcases key L.length (Nat.le_refl _) with h | ⟨k, x, r, h1, h2, h3, h4⟩
  · exact ⟨0, .inl ⟨fun i x hx => h i x (List.getElem?_eq_some_iff.1 hx).1 hx, rfl⟩⟩
  · exact ⟨r, .inr ⟨k, x, h1, h2, h3, h4⟩⟩
/-- the error of a field -/
def fldR (a b c : Int) (L : List Q) (r : Int) : Prop := (¬ Sz a b c ∧ r = 1) ∨ (Sz a b c ∧ ¬ (L.length : Int) = 3 * (a * b * c) ∧ r = 1) ∨ (Sz a b c ∧ (L.length : Int) = 3 * (a * b * c) ∧ LinksR L r)
theorem fldR_ex (a b c : Int) (L : List Q) : ∃ r, fldR a b c L r := by
  by_cases h : Sz a b c
  · by_cases hn : (L.length : Int) = 3 * (a * b * c)
    · obtain ⟨r, hr⟩ := LinksR.ex L
      exact ⟨r, .inr (.inr ⟨h, hn, hr⟩)⟩
    · exact ⟨1, .inr (.inl ⟨h, hn, rfl⟩)⟩
  · exact ⟨1, .inl ⟨h, rfl⟩⟩
theorem fldR_ok {a b c : Int} {L : List Q} (h : fldR a b c L 0) : Sz a b c ∧ (L.length : Int) = 3 * (a * b * c) ∧ ∀ (i : Nat) (x : Q), L[i]? = some x → V x ∧ x.n ≤ 5 := by
  rcases h with ⟨_, h⟩ | ⟨_, _, h⟩ | ⟨hz, hn, hr⟩
  · exact absurd h (by decide)
  · exact absurd h (by decide)
  · refine ⟨hz, hn, fun i x hx => ?_⟩
    rcases hr with ⟨h, _⟩ | ⟨_, _, _, _, h, _⟩
    · rcases h i x hx with ⟨_, h⟩ | ⟨_, _, h⟩ | ⟨h1, h2, _⟩
      · exact absurd h (by decide)
      · exact absurd h (by decide)
      · exact ⟨h1, h2⟩
    · exact absurd rfl h

/-- a field in a box, to be read -/
structure FBox (w : World) (b : Nat) (x y z : Int) (v : Value) : Prop where
  c0 : w.cell? ⟨b, 0, none⟩ = some (.int .i64 x)
  c1 : w.cell? ⟨b, 1, none⟩ = some (.int .i64 y)
  c2 : w.cell? ⟨b, 2, none⟩ = some (.int .i64 z)
  c3 : w.cell? ⟨b, 3, none⟩ = some v
  lt : b < w.heap.size
theorem FBox.later {w w1 : World} {b : Nat} {x y z : Int} {v : Value} (h : FBox w b x y z v) (hb : Below w.heap.size w w1) : FBox w1 b x y z v :=
  ⟨(hb.cell h.lt).trans h.c0, (hb.cell h.lt).trans h.c1, (hb.cell h.lt).trans h.c2, (hb.cell h.lt).trans h.c3, Nat.lt_of_lt_of_le h.lt hb.size⟩

set_option maxHeartbeats 800000 in
theorem checkUnit_any (x : Q) (r : Int) (w : World) (h : LinkR x r) : Calls Tryz.prog 113 #[.agg #[.int .i64 x.a, .int .i64 x.b, .int .i64 x.c, .int .i64 x.d, .int .i64 x.n]] w fun e w' => e = .returned (.int .i64 r) ∧ Below w.heap.size w w' := by
  rcases h with ⟨h, rfl⟩ | ⟨h, h5, rfl⟩ | ⟨h, h5, rfl⟩
  · have c1 := fun W : World => validate_bad x W h
    clear h
    go_enter Tryz.func113, Tryz.ntmps113
    go_wp2_with ((with_reducible refine (c1 _).mono ?_); rintro e w1 ⟨rfl, hw1⟩)
    go_ret
    exact ⟨rfl, by repeat (first | (with_reducible exact Below.refl _ _) | (with_reducible refine Below.setCell ?_ ?_ _) | (with_reducible refine Below.drew ?_) | (with_reducible refine Below.alloc ?_ ?_ _) | (with_reducible refine Below.trans ?_ (Below.mono hw1 ?_)) | (with_reducible exact hw1.size) | omega | (simp <;> omega) | (simp <;> (have s := hw1.size; omega)) | (have s0 := hw1.size; (try simp at s0); (try simp); omega))⟩
  all_goals
    have c1 := fun W : World => validate_ok x W h
    clear h
    go_enter Tryz.func113, Tryz.ntmps113
    go_wp2_with ((with_reducible refine (c1 _).mono ?_); rintro e w1 ⟨rfl, hw1⟩; have hc := Tail.cells hw1; have z0 := Nat.lt_of_lt_of_le (n := w.heap.size) (by simp) hw1.size)
    go_ret
    exact ⟨rfl, by repeat (first | (with_reducible exact Below.refl _ _) | (with_reducible refine Below.setCell ?_ ?_ _) | (with_reducible refine Below.drew ?_) | (with_reducible refine Below.alloc ?_ ?_ _) | (with_reducible refine Below.trans ?_ (Below.mono hw1 ?_)) | (with_reducible exact hw1.size) | omega | (simp <;> omega) | (simp <;> (have s := hw1.size; omega)) | (have s0 := hw1.size; (try simp at s0); (try simp); omega))⟩
set_option maxHeartbeats 800000 in
theorem refIsLink_any (x : Q) (r : Int) (w : World) (h : LinkR x r) : Calls Tryz.prog 155 #[.agg #[.int .i64 x.a, .int .i64 x.b, .int .i64 x.c, .int .i64 x.d, .int .i64 x.n]] w fun e w' => e = .returned (.int .i64 r) ∧ Below w.heap.size w w' := by
  rcases h with ⟨h, rfl⟩ | ⟨h, h5, rfl⟩ | ⟨h, h5, rfl⟩
  · have c1 := fun W : World => refValidate_any x W 1 (.inr ⟨h, rfl⟩)
    clear h
    go_enter Tryz.func155, Tryz.ntmps155
    go_wp2_with ((with_reducible refine (c1 _).mono ?_); rintro e w1 ⟨rfl, hw1⟩)
    go_ret
    exact ⟨rfl, by repeat (first | (with_reducible exact Below.refl _ _) | (with_reducible refine Below.setCell ?_ ?_ _) | (with_reducible refine Below.drew ?_) | (with_reducible refine Below.alloc ?_ ?_ _) | (with_reducible refine Below.trans ?_ (Below.mono hw1 ?_)) | (with_reducible exact hw1.size) | omega | (simp <;> omega) | (simp <;> (have s := hw1.size; omega)) | (have s0 := hw1.size; (try simp at s0); (try simp); omega))⟩
  all_goals
    have c1 := fun W : World => refValidate_any x W 0 (.inl ⟨h, rfl⟩)
    clear h
    go_enter Tryz.func155, Tryz.ntmps155
    go_wp2_with ((with_reducible refine (c1 _).mono ?_); rintro e w1 ⟨rfl, hw1⟩; have hc := Tail.cells hw1; have z0 := Nat.lt_of_lt_of_le (n := w.heap.size) (by simp) hw1.size)
    go_ret
    exact ⟨rfl, by repeat (first | (with_reducible exact Below.refl _ _) | (with_reducible refine Below.setCell ?_ ?_ _) | (with_reducible refine Below.drew ?_) | (with_reducible refine Below.alloc ?_ ?_ _) | (with_reducible refine Below.trans ?_ (Below.mono hw1 ?_)) | (with_reducible exact hw1.size) | omega | (simp <;> omega) | (simp <;> (have s := hw1.size; omega)) | (have s0 := hw1.size; (try simp at s0); (try simp); omega))⟩

set_option maxHeartbeats 1600000 in
theorem validateF_any (a b c r : Int) (ao : Option Addr) (cap : Nat) (L : List Q) (w : World) (h : LiesO w ao L) (hr : fldR a b c L r) (hlen : L.length ≤ 1000000) : Calls Tryz.prog 94 #[.agg #[.int .i64 a, .int .i64 b, .int .i64 c, .slice ao L.length cap]] w fun e w' => e = .returned (.int .i64 r) ∧ Below w.heap.size w w' := by
  rcases hr with ⟨hz, rfl⟩ | ⟨hz, hn, rfl⟩ | ⟨hz, hn, hr⟩
  · have c1 := fun W : World => sizes_any a b c 1 W (.inr ⟨hz, rfl⟩)
    clear hz h
    go_enter Tryz.func94, Tryz.ntmps94
    go_wp2_with ((with_reducible refine (c1 _).mono ?_); rintro e w1 ⟨rfl, hw1⟩)
    go_ret
    exact ⟨rfl, by repeat (first | (with_reducible exact Below.refl _ _) | (with_reducible refine Below.setCell ?_ ?_ _) | (with_reducible refine Below.drew ?_) | (with_reducible refine Below.alloc ?_ ?_ _) | (with_reducible refine Below.trans ?_ (Below.mono hw1 ?_)) | (with_reducible exact hw1.size) | omega | (simp <;> omega) | (simp <;> (have s := hw1.size; omega)) | (have s0 := hw1.size; (try simp at s0); (try simp); omega))⟩
  · have c1 := fun W : World => sizes_any a b c 0 W (.inl ⟨hz, rfl⟩)
    have c2 := fun W : World => count_any a b c W hz.a1 hz.a4 hz.b1 hz.b4 hz.c1 hz.c4
    obtain ⟨-, -, p3, p4⟩ := mul_rng hz.a1 hz.a4 hz.b1 hz.b4 hz.c1 hz.c4
    clear hz h
    generalize a * b * c = m at *
    have e1 : IntKind.i64.wrap (3 * m) = 3 * m := IntWalk.i64_in _ (by omega)
    have e2 : ((L.length : Int) != 3 * m) = true := by simpa using hn
    have kc := @Tail.cell_re; have kc1 : ∀ (W : World) (o : Obj) (d : Nat) (os : Array Obj) (a : Addr), a.block ≤ W.heap.size → (Sort.grow (redrawn (W.alloc o) d) os).cell? a = (W.alloc o).cell? a := fun W o d os a h => Tail.cell_re (W.alloc o) d os a (Nat.lt_of_le_of_lt h (by simp))
    clear hn p3 p4
    go_enter Tryz.func94, Tryz.ntmps94
    go_wp2_with ((with_reducible refine (c1 _).mono ?_); rintro e w1 ⟨rfl, hw1⟩; have hc1 := Tail.cells hw1; have z0 := Nat.lt_of_lt_of_le (n := w.heap.size) (by simp) hw1.size)
    refine Tail.region_below (by kernel_rfl) (by kernel_rfl) ?_
    repeat (go_big_quiet_step (first | (with_reducible exact Calls.regrown_of (c2 _))))
    refine wpQuiet_nil ?_
    intro w2 hw2
    go_wp2
    go_ret
    exact ⟨rfl, by repeat (first | (with_reducible exact Below.refl _ _) | (with_reducible refine Below.setCell ?_ ?_ _) | (with_reducible refine Below.drew ?_) | (with_reducible refine Below.alloc ?_ ?_ _) | (with_reducible refine Below.trans ?_ (Below.mono hw2 ?_)) | (with_reducible refine Below.trans ?_ (Below.mono hw1 ?_)) | (with_reducible exact hw2.size) | (with_reducible exact hw1.size) | omega | (simp <;> omega) | (simp <;> (have s := hw2.size; omega)) | (simp <;> (have s := hw1.size; omega)) | (have s0 := hw2.size; (try simp at s0); have s1 := hw1.size; (try simp at s1); (try simp); omega))⟩
  · have c1 := fun W : World => sizes_any a b c 0 W (.inl ⟨hz, rfl⟩)
    have c2 := fun W : World => count_any a b c W hz.a1 hz.a4 hz.b1 hz.b4 hz.c1 hz.c4
    obtain ⟨-, -, p3, p4⟩ := mul_rng hz.a1 hz.a4 hz.b1 hz.b4 hz.c1 hz.c4
    clear hz
    generalize a * b * c = m at *
    have e1 : IntKind.i64.wrap (3 * m) = 3 * m := IntWalk.i64_in _ (by omega)
    have e2 : ((L.length : Int) != 3 * m) = false := by simpa using hn
    have hL : L ≠ [] := by rintro rfl; simp at hn; omega
    obtain ⟨bl, off, rfl, h2⟩ : ∃ bl off, ao = some ⟨bl, off, none⟩ ∧ Lies w bl off L := by
      rcases h with h | h
      · exact absurd h hL
      · exact h
    have H := Lib.hid h2
    have HR := Lib.hid hr
    have kc := @Tail.cell_re; have kc1 : ∀ (W : World) (o : Obj) (d : Nat) (os : Array Obj) (a : Addr), a.block ≤ W.heap.size → (Sort.grow (redrawn (W.alloc o) d) os).cell? a = (W.alloc o).cell? a := fun W o d os a h => Tail.cell_re (W.alloc o) d os a (Nat.lt_of_le_of_lt h (by simp))
    clear hn p3 p4 h h2 hr hL
    go_enter Tryz.func94, Tryz.ntmps94
    go_wp2_with ((with_reducible refine (c1 _).mono ?_); rintro e w1 ⟨rfl, hw1⟩; have hc1 := Tail.cells hw1; have z0 := Nat.lt_of_lt_of_le (n := w.heap.size) (by simp) hw1.size)
    have fb : FBox w1 w.heap.size a b c (.slice (some ⟨bl, off, none⟩) L.length cap) := (⟨by simp [go_sem], by simp [go_sem], by simp [go_sem], by simp [go_sem], by simp⟩ : FBox (w.alloc (.cells #[.int .i64 a, .int .i64 b, .int .i64 c, .slice (some ⟨bl, off, none⟩) L.length cap] 25)) w.heap.size a b c (.slice (some ⟨bl, off, none⟩) L.length cap)).later hw1
    refine Tail.region_below (by kernel_rfl) (by kernel_rfl) ?_
    repeat (go_big_quiet_step (first | (with_reducible exact Calls.regrown_of (c2 _))))
    refine wpQuiet_nil ?_
    intro w2 hw2
    have fb2 := fb.later hw2
    have hb2 : Below w.heap.size w w2 := by repeat (first | (with_reducible exact Below.refl _ _) | (with_reducible refine Below.setCell ?_ ?_ _) | (with_reducible refine Below.drew ?_) | (with_reducible refine Below.alloc ?_ ?_ _) | (with_reducible refine Below.trans ?_ (Below.mono hw2 ?_)) | (with_reducible refine Below.trans ?_ (Below.mono hw1 ?_)) | (with_reducible exact hw2.size) | (with_reducible exact hw1.size) | omega | (simp <;> omega) | (simp <;> (have s := hw2.size; omega)) | (simp <;> (have s := hw1.size; omega)) | (have s0 := hw2.size; (try simp at s0); have s1 := hw1.size; (try simp at s1); (try simp); omega))
    clear fb hw1 hw2 hc1 z0 e1 c1 c2
    obtain ⟨f0, f1, f2, f3, fl⟩ := fb2
    have HF := Lib.hid (FBox.mk f0 f1 f2 f3 fl)
    go_wp2
    go_loopw [5, 6, 24] (fun _ _ q wr => ∃ k : Nat, k ≤ L.length ∧ q = .int .i64 k ∧ Hid (∀ (i : Nat) (y : Q), i < k → L[i]? = some y → LinkR y 0) ∧ FBox wr w.heap.size a b c (.slice (some ⟨bl, off, none⟩) L.length cap) ∧ Below w.heap.size w wr) (fun _ _ q _ => L.length - (intOf q).toNat)
    case atStart => exact ⟨0, by omega, rfl, Lib.hid (fun i y h => by omega), HF.out, hb2⟩
    case round =>
      obtain ⟨k, hk, rfl, hall, fb, hb⟩ := hrel
      clear f0 f1 f2 f3 fl HF hb2
      have hbs := hb.size
      have FB := Lib.hid fb
      obtain ⟨f0, f1, f2, f3, fl⟩ := fb
      by_cases hlt : k < L.length
      · have hx : L[k]? = some L[k] := List.getElem?_eq_getElem hlt
        obtain ⟨l0, l1, l2, l3, l4⟩ := H.out.later hb k _ hx
        have hor := links_at HR.out hall.out hlt
        generalize L[k] = x at *
        have HX := Lib.hid hx
        clear hx
        rcases hor with hgood | ⟨hbad, hr0⟩
        · have c3 := fun W : World => checkUnit_any x 0 W hgood
          have hnext : Hid (∀ (i : Nat) (y : Q), i < k + 1 → L[i]? = some y → LinkR y 0) := Lib.hid (fun i y hi hy => by
            by_cases he : i < k
            · exact hall.out i y he hy
            · obtain rfl : i = k := by omega
              have := HX.out.symm.trans hy
              simp only [Option.some.injEq] at this
              rw [← this]
              exact hgood)
          clear hgood hall
          go_wp2_with ((with_reducible refine (c3 _).mono ?_); rintro e w3 ⟨rfl, hw3⟩)
          have fb3 := (FB.out.later ((Below.refl _ _).alloc (Nat.le_refl _) _)).later hw3
          exact ⟨⟨k + 1, by omega, by go_num, hnext, fb3, by repeat (first | (with_reducible exact Below.refl _ _) | (with_reducible refine Below.setCell ?_ ?_ _) | (with_reducible refine Below.drew ?_) | (with_reducible refine Below.alloc ?_ ?_ _) | (with_reducible refine Below.trans ?_ (Below.mono hw3 ?_)) | (with_reducible refine Below.trans ?_ (Below.mono hb ?_)) | (with_reducible exact hw3.size) | (with_reducible exact hb.size) | omega | (simp <;> omega) | (simp <;> (have s := hw3.size; omega)) | (simp <;> (have s := hb.size; omega)) | (have s0 := hw3.size; (try simp at s0); have s1 := hb.size; (try simp at s1); (try simp); omega))⟩, by simp [intOf]; omega⟩
        · have c3 := fun W : World => checkUnit_any x r W hbad
          have hr1 : (r != 0) = true := by simpa using hr0
          clear hbad hr0 hall
          go_wp2_with ((with_reducible refine (c3 _).mono ?_); rintro e w3 ⟨rfl, hw3⟩)
          go_ret
          exact ⟨rfl, by repeat (first | (with_reducible exact Below.refl _ _) | (with_reducible refine Below.setCell ?_ ?_ _) | (with_reducible refine Below.drew ?_) | (with_reducible refine Below.alloc ?_ ?_ _) | (with_reducible refine Below.trans ?_ (Below.mono hw3 ?_)) | (with_reducible refine Below.trans ?_ (Below.mono hb ?_)) | (with_reducible exact hw3.size) | (with_reducible exact hb.size) | omega | (simp <;> omega) | (simp <;> (have s := hw3.size; omega)) | (simp <;> (have s := hb.size; omega)) | (have s0 := hw3.size; (try simp at s0); have s1 := hb.size; (try simp at s1); (try simp); omega))⟩
      · obtain rfl : k = L.length := by omega
        obtain rfl : r = 0 := links_end HR.out hall.out
        clear hall
        go_wp2
        go_ret
        exact ⟨rfl, hb⟩

set_option maxHeartbeats 1600000 in
theorem refValidateF_any (a b c r : Int) (ao : Option Addr) (cap : Nat) (L : List Q) (w : World) (h : LiesO w ao L) (hr : fldR a b c L r) (hlen : L.length ≤ 1000000) : Calls Tryz.prog 131 #[.agg #[.int .i64 a, .int .i64 b, .int .i64 c, .slice ao L.length cap]] w fun e w' => e = .returned (.int .i64 r) ∧ Below w.heap.size w w' := by
  rcases hr with ⟨hz, rfl⟩ | ⟨hz, hn, rfl⟩ | ⟨hz, hn, hr⟩
  · have c1 := fun W : World => refSizes_any a b c 1 W (.inr ⟨hz, rfl⟩)
    clear hz h
    go_enter Tryz.func131, Tryz.ntmps131
    go_wp2_with ((with_reducible refine (c1 _).mono ?_); rintro e w1 ⟨rfl, hw1⟩)
    go_ret
    exact ⟨rfl, by repeat (first | (with_reducible exact Below.refl _ _) | (with_reducible refine Below.setCell ?_ ?_ _) | (with_reducible refine Below.drew ?_) | (with_reducible refine Below.alloc ?_ ?_ _) | (with_reducible refine Below.trans ?_ (Below.mono hw1 ?_)) | (with_reducible exact hw1.size) | omega | (simp <;> omega) | (simp <;> (have s := hw1.size; omega)) | (have s0 := hw1.size; (try simp at s0); (try simp); omega))⟩
  · have c1 := fun W : World => refSizes_any a b c 0 W (.inl ⟨hz, rfl⟩)
    have c2 := fun W : World => refSize_any a b c W hz.a1 hz.a4 hz.b1 hz.b4 hz.c1 hz.c4
    obtain ⟨-, -, p3, p4⟩ := mul_rng hz.a1 hz.a4 hz.b1 hz.b4 hz.c1 hz.c4
    clear hz h
    generalize a * b * c = m at *
    have e1 : IntKind.i64.wrap (3 * m) = 3 * m := IntWalk.i64_in _ (by omega)
    have e2 : ((L.length : Int) != 3 * m) = true := by simpa using hn
    have kc := @Tail.cell_re; have kc1 : ∀ (W : World) (o : Obj) (d : Nat) (os : Array Obj) (a : Addr), a.block ≤ W.heap.size → (Sort.grow (redrawn (W.alloc o) d) os).cell? a = (W.alloc o).cell? a := fun W o d os a h => Tail.cell_re (W.alloc o) d os a (Nat.lt_of_le_of_lt h (by simp))
    clear hn p3 p4
    go_enter Tryz.func131, Tryz.ntmps131
    go_wp2_with ((with_reducible refine (c1 _).mono ?_); rintro e w1 ⟨rfl, hw1⟩; have hc1 := Tail.cells hw1; have z0 := Nat.lt_of_lt_of_le (n := w.heap.size) (by simp) hw1.size)
    refine Tail.region_below (by kernel_rfl) (by kernel_rfl) ?_
    repeat (go_big_quiet_step (first | (with_reducible exact Calls.regrown_of (c2 _))))
    refine wpQuiet_nil ?_
    intro w2 hw2
    go_wp2
    go_ret
    exact ⟨rfl, by repeat (first | (with_reducible exact Below.refl _ _) | (with_reducible refine Below.setCell ?_ ?_ _) | (with_reducible refine Below.drew ?_) | (with_reducible refine Below.alloc ?_ ?_ _) | (with_reducible refine Below.trans ?_ (Below.mono hw2 ?_)) | (with_reducible refine Below.trans ?_ (Below.mono hw1 ?_)) | (with_reducible exact hw2.size) | (with_reducible exact hw1.size) | omega | (simp <;> omega) | (simp <;> (have s := hw2.size; omega)) | (simp <;> (have s := hw1.size; omega)) | (have s0 := hw2.size; (try simp at s0); have s1 := hw1.size; (try simp at s1); (try simp); omega))⟩
  · have c1 := fun W : World => refSizes_any a b c 0 W (.inl ⟨hz, rfl⟩)
    have c2 := fun W : World => refSize_any a b c W hz.a1 hz.a4 hz.b1 hz.b4 hz.c1 hz.c4
    obtain ⟨-, -, p3, p4⟩ := mul_rng hz.a1 hz.a4 hz.b1 hz.b4 hz.c1 hz.c4
    clear hz
    generalize a * b * c = m at *
    have e1 : IntKind.i64.wrap (3 * m) = 3 * m := IntWalk.i64_in _ (by omega)
    have e2 : ((L.length : Int) != 3 * m) = false := by simpa using hn
    have hL : L ≠ [] := by rintro rfl; simp at hn; omega
    obtain ⟨bl, off, rfl, h2⟩ : ∃ bl off, ao = some ⟨bl, off, none⟩ ∧ Lies w bl off L := by
      rcases h with h | h
      · exact absurd h hL
      · exact h
    have H := Lib.hid h2
    have HR := Lib.hid hr
    have kc := @Tail.cell_re; have kc1 : ∀ (W : World) (o : Obj) (d : Nat) (os : Array Obj) (a : Addr), a.block ≤ W.heap.size → (Sort.grow (redrawn (W.alloc o) d) os).cell? a = (W.alloc o).cell? a := fun W o d os a h => Tail.cell_re (W.alloc o) d os a (Nat.lt_of_le_of_lt h (by simp))
    clear hn p3 p4 h h2 hr hL
    go_enter Tryz.func131, Tryz.ntmps131
    go_wp2_with ((with_reducible refine (c1 _).mono ?_); rintro e w1 ⟨rfl, hw1⟩; have hc1 := Tail.cells hw1; have z0 := Nat.lt_of_lt_of_le (n := w.heap.size) (by simp) hw1.size)
    have fb : FBox w1 w.heap.size a b c (.slice (some ⟨bl, off, none⟩) L.length cap) := (⟨by simp [go_sem], by simp [go_sem], by simp [go_sem], by simp [go_sem], by simp⟩ : FBox (w.alloc (.cells #[.int .i64 a, .int .i64 b, .int .i64 c, .slice (some ⟨bl, off, none⟩) L.length cap] 25)) w.heap.size a b c (.slice (some ⟨bl, off, none⟩) L.length cap)).later hw1
    refine Tail.region_below (by kernel_rfl) (by kernel_rfl) ?_
    repeat (go_big_quiet_step (first | (with_reducible exact Calls.regrown_of (c2 _))))
    refine wpQuiet_nil ?_
    intro w2 hw2
    have fb2 := fb.later hw2
    have hb2 : Below w.heap.size w w2 := by repeat (first | (with_reducible exact Below.refl _ _) | (with_reducible refine Below.setCell ?_ ?_ _) | (with_reducible refine Below.drew ?_) | (with_reducible refine Below.alloc ?_ ?_ _) | (with_reducible refine Below.trans ?_ (Below.mono hw2 ?_)) | (with_reducible refine Below.trans ?_ (Below.mono hw1 ?_)) | (with_reducible exact hw2.size) | (with_reducible exact hw1.size) | omega | (simp <;> omega) | (simp <;> (have s := hw2.size; omega)) | (simp <;> (have s := hw1.size; omega)) | (have s0 := hw2.size; (try simp at s0); have s1 := hw1.size; (try simp at s1); (try simp); omega))
    clear fb hw1 hw2 hc1 z0 e1 c1 c2
    obtain ⟨f0, f1, f2, f3, fl⟩ := fb2
    have HF := Lib.hid (FBox.mk f0 f1 f2 f3 fl)
    go_wp2
    go_loopw [4, 5] (fun q _ wr => ∃ k : Nat, k ≤ L.length ∧ q = .int .i64 k ∧ Hid (∀ (i : Nat) (y : Q), i < k → L[i]? = some y → LinkR y 0) ∧ FBox wr w.heap.size a b c (.slice (some ⟨bl, off, none⟩) L.length cap) ∧ Below w.heap.size w wr) (fun q _ _ => L.length - (intOf q).toNat)
    case atStart => exact ⟨0, by omega, rfl, Lib.hid (fun i y h => by omega), HF.out, hb2⟩
    case round =>
      obtain ⟨k, hk, rfl, hall, fb, hb⟩ := hrel
      clear f0 f1 f2 f3 fl HF hb2
      have hbs := hb.size
      have FB := Lib.hid fb
      obtain ⟨f0, f1, f2, f3, fl⟩ := fb
      by_cases hlt : k < L.length
      · have hx : L[k]? = some L[k] := List.getElem?_eq_getElem hlt
        obtain ⟨l0, l1, l2, l3, l4⟩ := H.out.later hb k _ hx
        have hor := links_at HR.out hall.out hlt
        generalize L[k] = x at *
        have HX := Lib.hid hx
        clear hx
        rcases hor with hgood | ⟨hbad, hr0⟩
        · have c3 := fun W : World => refIsLink_any x 0 W hgood
          have hnext : Hid (∀ (i : Nat) (y : Q), i < k + 1 → L[i]? = some y → LinkR y 0) := Lib.hid (fun i y hi hy => by
            by_cases he : i < k
            · exact hall.out i y he hy
            · obtain rfl : i = k := by omega
              have := HX.out.symm.trans hy
              simp only [Option.some.injEq] at this
              rw [← this]
              exact hgood)
          clear hgood hall
          go_wp2_with ((with_reducible refine (c3 _).mono ?_); rintro e w3 ⟨rfl, hw3⟩)
          have fb3 := FB.out.later hw3
          exact ⟨⟨k + 1, by omega, by go_num, hnext, fb3, by repeat (first | (with_reducible exact Below.refl _ _) | (with_reducible refine Below.setCell ?_ ?_ _) | (with_reducible refine Below.drew ?_) | (with_reducible refine Below.alloc ?_ ?_ _) | (with_reducible refine Below.trans ?_ (Below.mono hw3 ?_)) | (with_reducible refine Below.trans ?_ (Below.mono hb ?_)) | (with_reducible exact hw3.size) | (with_reducible exact hb.size) | omega | (simp <;> omega) | (simp <;> (have s := hw3.size; omega)) | (simp <;> (have s := hb.size; omega)) | (have s0 := hw3.size; (try simp at s0); have s1 := hb.size; (try simp at s1); (try simp); omega))⟩, by simp [intOf]; omega⟩
        · have c3 := fun W : World => refIsLink_any x r W hbad
          have hr1 : (r != 0) = true := by simpa using hr0
          clear hbad hr0 hall
          go_wp2_with ((with_reducible refine (c3 _).mono ?_); rintro e w3 ⟨rfl, hw3⟩)
          go_ret
          exact ⟨rfl, by repeat (first | (with_reducible exact Below.refl _ _) | (with_reducible refine Below.setCell ?_ ?_ _) | (with_reducible refine Below.drew ?_) | (with_reducible refine Below.alloc ?_ ?_ _) | (with_reducible refine Below.trans ?_ (Below.mono hw3 ?_)) | (with_reducible refine Below.trans ?_ (Below.mono hb ?_)) | (with_reducible exact hw3.size) | (with_reducible exact hb.size) | omega | (simp <;> omega) | (simp <;> (have s := hw3.size; omega)) | (simp <;> (have s := hb.size; omega)) | (have s0 := hw3.size; (try simp at s0); have s1 := hb.size; (try simp at s1); (try simp); omega))⟩
      · obtain rfl : k = L.length := by omega
        obtain rfl : r = 0 := links_end HR.out hall.out
        clear hall
        go_wp2
        go_ret
        exact ⟨rfl, hb⟩

theorem fld_some {a b c : Int} {L : List Q} {w : World} {ao : Option Addr} (hr : fldR a b c L 0) (h : LiesO w ao L) : ∃ bl off, ao = some ⟨bl, off, none⟩ ∧ Lies w bl off L := by
  obtain ⟨hz, hn, _⟩ := fldR_ok hr
  obtain ⟨-, -, p3, p4⟩ := mul_rng hz.a1 hz.a4 hz.b1 hz.b4 hz.c1 hz.c4
  rcases h with rfl | h
  · simp at hn; omega
  · exact h
theorem fld_len {a b c : Int} {L : List Q} (hr : fldR a b c L 0) : L.length ≤ 48 := by
  obtain ⟨hz, hn, _⟩ := fldR_ok hr
  have := hz.p
  omega

theorem FBox.grown {w w1 : World} {b : Nat} {x y z : Int} {v : Value} {row : Option Nat} (h : FBox w b x y z v) (hg : w.grownBy w1 row) (hne : some b ≠ row) : FBox w1 b x y z v :=
  ⟨hg.cell h.c0 hne, hg.cell h.c1 hne, hg.cell h.c2 hne, hg.cell h.c3 hne, Nat.lt_of_lt_of_le h.lt hg.size⟩
end Go.Proofs.YtpfhjdmgkckjfaaGreatDoor
