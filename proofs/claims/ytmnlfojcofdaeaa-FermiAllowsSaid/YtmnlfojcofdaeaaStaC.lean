/- Fields with vectors and a mass: the first error of all, or the arms of the field, as the program and the document's answers find it.
Conditions: the lists lie in memory as it is written at each theorem. -/
import Derived.Test.YtmnlfojcofdaeaaValS
import Derived.Test.YtmnlfojcofdaeaaHofC
import Derived.Test.YtmnlfojcofdaeaaOpen4
namespace Go.Proofs.Ytmnlfojcofdaeaa
set_option linter.unusedVariables false
set_option linter.unusedSimpArgs false
set_option maxRecDepth 1000000
open Go.RowKit
open Um Tm Fm

theorem small12 : ∀ k : Nat, k < 24 → ((small k).n = 1 ∨ (small k).n = 2) ∧ (-100 ≤ (small k).b ∧ (small k).b ≤ 100) ∧ (-100 ≤ (small k).c ∧ (small k).c ≤ 100) ∧ (-100 ≤ (small k).d ∧ (small k).d ≤ 100) := by decide
theorem numR_small {x : Q} {n : Int} (h : NumR x n true) : N12 x ∧ (-100 ≤ x.b ∧ x.b ≤ 100) ∧ (-100 ≤ x.c ∧ x.c ≤ 100) ∧ (-100 ≤ x.d ∧ x.d ≤ 100) := by
  rcases h with ⟨k, hk, rfl, -, -, -⟩ | ⟨-, -, h⟩
  · exact small12 k hk
  · cases h
/-- a small field -/
structure Fld7 (a b c : Int) (L : List Q) (n : Nat) : Prop where
  z : Sz a b c
  e : (n : Int) = a * b * c
  l : L.length = n * 3
  s : ∀ (i : Nat) (x : Q), L[i]? = some x → N12 x ∧ (-100 ≤ x.b ∧ x.b ≤ 100) ∧ (-100 ≤ x.c ∧ x.c ≤ 100) ∧ (-100 ≤ x.d ∧ x.d ≤ 100)
theorem fld7 {a b c : Int} {L : List Q} {ns : List Int} (h : numsR a b c L ns 0) : ∃ n, Fld7 a b c L n := by
  rcases h with ⟨_, h1, _⟩ | ⟨hr, ⟨hq, _⟩ | ⟨_, h⟩⟩
  · exact absurd rfl h1
  · obtain ⟨hz, hl, -⟩ := fldR_ok hr
    have hp := hz.p
    obtain ⟨-, -, p3, -⟩ := mul_rng hz.a1 hz.a4 hz.b1 hz.b4 hz.c1 hz.c4
    refine ⟨(a * b * c).toNat, hz, by omega, by omega, fun i x hx => ?_⟩
    rcases hq with ⟨-, hn⟩ | ⟨hf, -⟩
    · obtain ⟨m, -, hm⟩ := hn.2 i x (List.getElem?_eq_some_iff.1 hx).1 hx
      exact numR_small hm
    · cases hf
  · cases h
theorem Fld7.pos {a b c : Int} {L : List Q} {n : Nat} (h : Fld7 a b c L n) : 0 < n ∧ n ≤ 16 := by
  obtain ⟨-, -, p3, -⟩ := mul_rng h.z.a1 h.z.a4 h.z.b1 h.z.b4 h.z.c1 h.z.c4
  have := h.z.p
  have := h.e
  omega
theorem Fld7.lies {a b c : Int} {L : List Q} {n : Nat} (h : Fld7 a b c L n) {w : World} {ao : Option Addr} (hl : LiesO w ao L) : ∃ bl off, ao = some ⟨bl, off, none⟩ ∧ Lies w bl off L := by
  have := h.pos
  have := h.l
  rcases hl with h1 | h1
  · rw [h1] at this; simp at this; omega
  · exact h1
def ms0 (ma r : Int) : Prop := (¬ IsM ma ∧ r = 1) ∨ (IsM ma ∧ r = 0)
theorem ms0_ex (ma : Int) : ∃ r, ms0 ma r := by
  by_cases h : IsM ma
  · exact ⟨0, .inr ⟨h, rfl⟩⟩
  · exact ⟨1, .inl ⟨h, rfl⟩⟩
/-- the first error of a field, a vector and a mass -/
def ms1 (m : Nat) (M : List Sp) (r0 ma r : Int) : Prop := ∃ r1, vS m M r0 r1 ∧ ((r1 ≠ 0 ∧ r = r1) ∨ (r1 = 0 ∧ ms0 ma r))
theorem ms1_ex (m : Nat) (M : List Sp) (r0 ma : Int) : ∃ r, ms1 m M r0 ma r := by
  obtain ⟨r1, h1⟩ := vS_ex m M r0
  by_cases h : r1 = 0
  · obtain ⟨r, hr⟩ := ms0_ex ma; exact ⟨r, r1, h1, .inr ⟨h, hr⟩⟩
  · exact ⟨r1, r1, h1, .inl ⟨h, rfl⟩⟩
/-- the first error of a field, two vectors and a mass -/
def ms2 (m : Nat) (M N : List Sp) (r0 ma r : Int) : Prop := ∃ r1, vS m M r0 r1 ∧ ((r1 ≠ 0 ∧ r = r1) ∨ (r1 = 0 ∧ ms1 m N r0 ma r))
theorem ms2_ex (m : Nat) (M N : List Sp) (r0 ma : Int) : ∃ r, ms2 m M N r0 ma r := by
  obtain ⟨r1, h1⟩ := vS_ex m M r0
  by_cases h : r1 = 0
  · obtain ⟨r, hr⟩ := ms1_ex m N r0 ma; exact ⟨r, r1, h1, .inr ⟨h, hr⟩⟩
  · exact ⟨r1, r1, h1, .inl ⟨h, rfl⟩⟩
theorem ms1_ok {m : Nat} {M : List Sp} {r0 ma : Int} (h : ms1 m M r0 ma 0) : r0 = 0 ∧ M.length * 3 = m ∧ AllE mE M ∧ IsM ma := by
  obtain ⟨r1, h1, ⟨h2, h3⟩ | ⟨rfl, ⟨_, h3⟩ | ⟨h3, _⟩⟩⟩ := h
  · exact absurd h3.symm h2
  · cases h3
  · exact ⟨(vS_ok h1).1, (vS_ok h1).2.1, (vS_ok h1).2.2, h3⟩
theorem ms2_ok {m : Nat} {M N : List Sp} {r0 ma : Int} (h : ms2 m M N r0 ma 0) : r0 = 0 ∧ M.length * 3 = m ∧ AllE mE M ∧ N.length * 3 = m ∧ AllE mE N ∧ IsM ma := by
  obtain ⟨r1, h1, ⟨h2, h3⟩ | ⟨rfl, h3⟩⟩ := h
  · exact absurd h3.symm h2
  · obtain ⟨-, k1, k2, k3⟩ := ms1_ok h3
    exact ⟨(vS_ok h1).1, (vS_ok h1).2.1, (vS_ok h1).2.2, k1, k2, k3⟩
set_option maxHeartbeats 3200000 in
theorem start1_bad (a b c r0 ma r : Int) (ao po : Option Addr) (cap pc sb so : Nat) (L : List Q) (ns : List Int) (M : List Sp) (w : World) (h : LiesO w ao L) (hp : LiesOI w po (fl M)) (hs : w.cell? ⟨sb, so, none⟩ = some (.slice po M.length pc)) (hr : numsR a b c L ns r0) (hv : ms1 L.length M r0 ma r) (hne : r ≠ 0) (hlen : L.length ≤ 1000000) (hlm : M.length ≤ 1000000) : Calls Try.prog 62 #[.agg #[.int .i64 a, .int .i64 b, .int .i64 c, .slice ao L.length cap], .int .i64 ma, .slice (some ⟨sb, so, none⟩) 1 1] w fun e w' => e = .returned (.tuple #[.slice none 0 0, .int .i64 r]) ∧ Below w.heap.size w w' := by
  have H := Lib.hid h
  have HP := Lib.hid hp
  have hsl := World.block_lt_of_cell? _ _ hs
  have v1 : ∀ (r1 : Int), vS L.length M r0 r1 → ∀ W : World, LiesO W ao L → LiesOI W po (fl M) → Calls Try.prog 21 #[.agg #[.int .i64 a, .int .i64 b, .int .i64 c, .slice ao L.length cap], .slice po M.length pc] W fun e w' => e = .returned (.int .i64 r1) ∧ Below W.heap.size W w' := fun r1 hv W h h2 => validate7_any a b c r0 r1 ao po cap pc L ns M W h h2 hr hv hlen hlm
  have im := fun W : World => isMass_any ma W false
  obtain ⟨r1, hv1, hc⟩ := hv
  have c1 := v1 r1 hv1
  clear h hp v1 hv1 hr
  rcases hc with ⟨h1, rfl⟩ | ⟨rfl, hc⟩
  · have t1 : (r != 0) = true := by simpa using hne
    clear h1 hne im
    go_enter Try.func62, Try.ntmps62
    go_wp2
    refine wp_loop_rounds 1 ?_
    rw [rounds_succ]
    go_wp2_with ((with_reducible refine (c1 _ (H.out.later (by repeat (first | (with_reducible exact Below.refl _ _) | (with_reducible refine Below.setCell ?_ ?_ _) | (with_reducible refine Below.drew ?_) | (with_reducible refine Below.alloc ?_ ?_ _) | omega | (simp <;> omega)))) (HP.out.later (by repeat (first | (with_reducible exact Below.refl _ _) | (with_reducible refine Below.setCell ?_ ?_ _) | (with_reducible refine Below.drew ?_) | (with_reducible refine Below.alloc ?_ ?_ _) | omega | (simp <;> omega))))).mono ?_); clear c1; rintro e w1 ⟨rfl, hw1⟩; have hc1 := Tail.cells hw1; have zw10 := Nat.lt_of_lt_of_le (n := w.heap.size) (by simp <;> omega) hw1.size; have zs : sb < w1.heap.size := (by omega))
    go_ret2
    exact ⟨rfl, by repeat (first | (with_reducible exact Below.refl _ _) | (with_reducible refine Below.setCell ?_ ?_ _) | (with_reducible refine Below.drew ?_) | (with_reducible refine Below.alloc ?_ ?_ _) | (with_reducible refine Below.trans ?_ (Below.mono hw1 ?_)) | (with_reducible exact hw1.size) | omega | (simp <;> omega) | (simp <;> (have s := hw1.size; omega)) | (have s0 := hw1.size; (try simp at s0); (try simp); omega))⟩
  · rcases hc with ⟨hm, rfl⟩ | ⟨hm, h0⟩
    · have im1 := fun W => im W (.inr ⟨hm, rfl⟩)
      clear hm im hne
      go_enter Try.func62, Try.ntmps62
      go_wp2
      refine wp_loop_rounds 2 ?_
      rw [rounds_succ]
      go_wp2_with ((with_reducible refine (c1 _ (H.out.later (by repeat (first | (with_reducible exact Below.refl _ _) | (with_reducible refine Below.setCell ?_ ?_ _) | (with_reducible refine Below.drew ?_) | (with_reducible refine Below.alloc ?_ ?_ _) | omega | (simp <;> omega)))) (HP.out.later (by repeat (first | (with_reducible exact Below.refl _ _) | (with_reducible refine Below.setCell ?_ ?_ _) | (with_reducible refine Below.drew ?_) | (with_reducible refine Below.alloc ?_ ?_ _) | omega | (simp <;> omega))))).mono ?_); clear c1; rintro e w1 ⟨rfl, hw1⟩; have hc1 := Tail.cells hw1; have zw10 := Nat.lt_of_lt_of_le (n := w.heap.size) (by simp <;> omega) hw1.size; have zs : sb < w1.heap.size := (by omega))
      rw [rounds_succ]
      go_wp2_with ((with_reducible refine (im1 _).mono ?_); rintro e w2 ⟨rfl, rfl⟩)
      go_ret2
      exact ⟨rfl, by repeat (first | (with_reducible exact Below.refl _ _) | (with_reducible refine Below.setCell ?_ ?_ _) | (with_reducible refine Below.drew ?_) | (with_reducible refine Below.alloc ?_ ?_ _) | (with_reducible refine Below.trans ?_ (Below.mono hw1 ?_)) | (with_reducible exact hw1.size) | omega | (simp <;> omega) | (simp <;> (have s := hw1.size; omega)) | (have s0 := hw1.size; (try simp at s0); (try simp); omega))⟩
    · exact absurd h0 hne
set_option maxHeartbeats 3200000 in
theorem start1_ok (a b c r0 ma : Int) (ao po : Option Addr) (cap pc sb so : Nat) (L : List Q) (ns : List Int) (M : List Sp) (w : World) (h : LiesO w ao L) (hp : LiesOI w po (fl M)) (hs : w.cell? ⟨sb, so, none⟩ = some (.slice po M.length pc)) (hr : numsR a b c L ns r0) (hv : ms1 L.length M r0 ma 0) (n : Nat) (hf : Fld7 a b c L n) (hlm : M.length ≤ 1000000) : Calls Try.prog 62 #[.agg #[.int .i64 a, .int .i64 b, .int .i64 c, .slice ao L.length cap], .int .i64 ma, .slice (some ⟨sb, so, none⟩) 1 1] w fun e w' => RetH w.heap.size n (row (arms a b c L L.length)) e w' ∧ Below w.heap.size w w' := by
  have hlen : L.length ≤ 1000000 := by have := hf.pos; have := hf.l; omega
  obtain ⟨bl, off, rfl, hL⟩ := hf.lies h
  have HLL := Lib.hid hL
  have ch := fun (W : World) (hl : Lies W bl off L) => hoppingOf_any a b c bl off cap n L W hf.z hf.e hf.l hl (fun i x hx => (hf.s i x hx).1)
  have H := Lib.hid h
  have HP := Lib.hid hp
  have hsl := World.block_lt_of_cell? _ _ hs
  have v1 : ∀ (r1 : Int), vS L.length M r0 r1 → ∀ W : World, LiesO W (some ⟨bl, off, none⟩) L → LiesOI W po (fl M) → Calls Try.prog 21 #[.agg #[.int .i64 a, .int .i64 b, .int .i64 c, .slice (some ⟨bl, off, none⟩) L.length cap], .slice po M.length pc] W fun e w' => e = .returned (.int .i64 r1) ∧ Below W.heap.size W w' := fun r1 hv W h h2 => validate7_any a b c r0 r1 (some ⟨bl, off, none⟩) po cap pc L ns M W h h2 hr hv hlen hlm
  have him : IsM ma := (ms1_ok hv).2.2.2
  have im := fun W : World => isMass_any ma W true (.inl ⟨him, rfl⟩)
  have c1 := v1 0 (by
    obtain ⟨r1, h1, ⟨h2, h3⟩ | ⟨h2, -⟩⟩ := hv
    · exact absurd h3.symm h2
    · rw [h2] at h1; exact h1)
  clear h hp v1 hv hr him hL hf
  go_enter Try.func62, Try.ntmps62
  go_wp2
  refine wp_loop_rounds 2 ?_
  rw [rounds_succ]
  go_wp2_with ((with_reducible refine (c1 _ (H.out.later (by repeat (first | (with_reducible exact Below.refl _ _) | (with_reducible refine Below.setCell ?_ ?_ _) | (with_reducible refine Below.drew ?_) | (with_reducible refine Below.alloc ?_ ?_ _) | omega | (simp <;> omega)))) (HP.out.later (by repeat (first | (with_reducible exact Below.refl _ _) | (with_reducible refine Below.setCell ?_ ?_ _) | (with_reducible refine Below.drew ?_) | (with_reducible refine Below.alloc ?_ ?_ _) | omega | (simp <;> omega))))).mono ?_); clear c1; rintro e w1 ⟨rfl, hw1⟩; have hc1 := Tail.cells hw1; have zw10 := Nat.lt_of_lt_of_le (n := w.heap.size) (by simp <;> omega) hw1.size; have zs : sb < w1.heap.size := (by omega))
  rw [rounds_succ]
  go_wp2_with (first | ((with_reducible refine (im _).mono ?_); rintro e w3 ⟨rfl, rfl⟩) | ((with_reducible refine (ch _ (HLL.out.later (by repeat (first | (with_reducible exact Below.refl _ _) | (with_reducible refine Below.setCell ?_ ?_ _) | (with_reducible refine Below.drew ?_) | (with_reducible refine Below.alloc ?_ ?_ _) | (with_reducible refine Below.trans ?_ (Below.mono hw1 ?_)) | (with_reducible exact hw1.size) | omega | (simp <;> omega) | (simp <;> (have s := hw1.size; omega)) | (have s0 := hw1.size; (try simp at s0); (try simp); omega))))).mono ?_); rintro e w4 ⟨⟨g, vs, rfl, hH, hg⟩, hw4⟩; have HH := Lib.hid hH; clear hH))
  go_ret2
  have hsz : w.heap.size ≤ w1.heap.size := by omega
  refine ⟨⟨g, vs, rfl, ?_, by omega⟩, by repeat (first | (with_reducible exact Below.refl _ _) | (with_reducible refine Below.setCell ?_ ?_ _) | (with_reducible refine Below.drew ?_) | (with_reducible refine Below.alloc ?_ ?_ _) | (with_reducible refine Below.trans ?_ (Below.mono hw4 ?_)) | (with_reducible refine Below.trans ?_ (Below.mono hw1 ?_)) | (with_reducible exact hw4.size) | (with_reducible exact hw1.size) | omega | (simp <;> omega) | (simp <;> (have s := hw4.size; omega)) | (simp <;> (have s := hw1.size; omega)) | (have s0 := hw4.size; (try simp at s0); have s1 := hw1.size; (try simp at s1); (try simp); omega))⟩
  have hp := HH.out
  exact ⟨hp.cell, fun s hs => owned_base (hp.own s hs) hsz, hp.far, hp.apart, hp.free, hp.lt⟩
set_option maxHeartbeats 3200000 in
theorem start2_bad (a b c r0 ma r : Int) (ao po qo : Option Addr) (cap pc qc sb so : Nat) (L : List Q) (ns : List Int) (M N : List Sp) (w : World) (h : LiesO w ao L) (hp : LiesOI w po (fl M)) (hq : LiesOI w qo (fl N)) (hs : w.cell? ⟨sb, so, none⟩ = some (.slice po M.length pc)) (ht : w.cell? ⟨sb, so + 1, none⟩ = some (.slice qo N.length qc)) (hr : numsR a b c L ns r0) (hv : ms2 L.length M N r0 ma r) (hne : r ≠ 0) (hlen : L.length ≤ 1000000) (hlm : M.length ≤ 1000000) (hln : N.length ≤ 1000000) : Calls Try.prog 62 #[.agg #[.int .i64 a, .int .i64 b, .int .i64 c, .slice ao L.length cap], .int .i64 ma, .slice (some ⟨sb, so, none⟩) 2 2] w fun e w' => e = .returned (.tuple #[.slice none 0 0, .int .i64 r]) ∧ Below w.heap.size w w' := by
  have H := Lib.hid h
  have HP := Lib.hid hp
  have hsl := World.block_lt_of_cell? _ _ hs
  have v1 : ∀ (r1 : Int), vS L.length M r0 r1 → ∀ W : World, LiesO W ao L → LiesOI W po (fl M) → Calls Try.prog 21 #[.agg #[.int .i64 a, .int .i64 b, .int .i64 c, .slice ao L.length cap], .slice po M.length pc] W fun e w' => e = .returned (.int .i64 r1) ∧ Below W.heap.size W w' := fun r1 hv W h h2 => validate7_any a b c r0 r1 ao po cap pc L ns M W h h2 hr hv hlen hlm
  have HQ := Lib.hid hq
  have v2 : ∀ (r1 : Int), vS L.length N r0 r1 → ∀ W : World, LiesO W ao L → LiesOI W qo (fl N) → Calls Try.prog 21 #[.agg #[.int .i64 a, .int .i64 b, .int .i64 c, .slice ao L.length cap], .slice qo N.length qc] W fun e w' => e = .returned (.int .i64 r1) ∧ Below W.heap.size W w' := fun r1 hv W h h2 => validate7_any a b c r0 r1 ao qo cap qc L ns N W h h2 hr hv hlen hln
  have im := fun W : World => isMass_any ma W false
  obtain ⟨r1, hv1, hc⟩ := hv
  have c1 := v1 r1 hv1
  clear h hp v1 hv1 hr hq
  rcases hc with ⟨h1, rfl⟩ | ⟨rfl, hc⟩
  · have t1 : (r != 0) = true := by simpa using hne
    clear h1 hne im v2
    go_enter Try.func62, Try.ntmps62
    go_wp2
    refine wp_loop_rounds 1 ?_
    rw [rounds_succ]
    go_wp2_with ((with_reducible refine (c1 _ (H.out.later (by repeat (first | (with_reducible exact Below.refl _ _) | (with_reducible refine Below.setCell ?_ ?_ _) | (with_reducible refine Below.drew ?_) | (with_reducible refine Below.alloc ?_ ?_ _) | omega | (simp <;> omega)))) (HP.out.later (by repeat (first | (with_reducible exact Below.refl _ _) | (with_reducible refine Below.setCell ?_ ?_ _) | (with_reducible refine Below.drew ?_) | (with_reducible refine Below.alloc ?_ ?_ _) | omega | (simp <;> omega))))).mono ?_); clear c1; rintro e w1 ⟨rfl, hw1⟩; have hc1 := Tail.cells hw1; have zw10 := Nat.lt_of_lt_of_le (n := w.heap.size) (by simp <;> omega) hw1.size; have zs : sb < w1.heap.size := (by omega))
    go_ret2
    exact ⟨rfl, by repeat (first | (with_reducible exact Below.refl _ _) | (with_reducible refine Below.setCell ?_ ?_ _) | (with_reducible refine Below.drew ?_) | (with_reducible refine Below.alloc ?_ ?_ _) | (with_reducible refine Below.trans ?_ (Below.mono hw1 ?_)) | (with_reducible exact hw1.size) | omega | (simp <;> omega) | (simp <;> (have s := hw1.size; omega)) | (have s0 := hw1.size; (try simp at s0); (try simp); omega))⟩
  · obtain ⟨r2, hv2, hc⟩ := hc
    have c2 := v2 r2 hv2
    clear v2 hv2
    rcases hc with ⟨h1, rfl⟩ | ⟨rfl, hc⟩
    · have t1 : (r != 0) = true := by simpa using hne
      clear h1 hne im
      go_enter Try.func62, Try.ntmps62
      go_wp2
      refine wp_loop_rounds 2 ?_
      rw [rounds_succ]
      go_wp2_with ((with_reducible refine (c1 _ (H.out.later (by repeat (first | (with_reducible exact Below.refl _ _) | (with_reducible refine Below.setCell ?_ ?_ _) | (with_reducible refine Below.drew ?_) | (with_reducible refine Below.alloc ?_ ?_ _) | omega | (simp <;> omega)))) (HP.out.later (by repeat (first | (with_reducible exact Below.refl _ _) | (with_reducible refine Below.setCell ?_ ?_ _) | (with_reducible refine Below.drew ?_) | (with_reducible refine Below.alloc ?_ ?_ _) | omega | (simp <;> omega))))).mono ?_); clear c1; rintro e w1 ⟨rfl, hw1⟩; have hc1 := Tail.cells hw1; have zw10 := Nat.lt_of_lt_of_le (n := w.heap.size) (by simp <;> omega) hw1.size; have zs : sb < w1.heap.size := (by omega))
      rw [rounds_succ]
      go_wp2_with ((with_reducible refine (c2 _ (H.out.later (by repeat (first | (with_reducible exact Below.refl _ _) | (with_reducible refine Below.setCell ?_ ?_ _) | (with_reducible refine Below.drew ?_) | (with_reducible refine Below.alloc ?_ ?_ _) | (with_reducible refine Below.trans ?_ (Below.mono hw1 ?_)) | (with_reducible exact hw1.size) | omega | (simp <;> omega) | (simp <;> (have s := hw1.size; omega)) | (have s0 := hw1.size; (try simp at s0); (try simp); omega)))) (HQ.out.later (by repeat (first | (with_reducible exact Below.refl _ _) | (with_reducible refine Below.setCell ?_ ?_ _) | (with_reducible refine Below.drew ?_) | (with_reducible refine Below.alloc ?_ ?_ _) | (with_reducible refine Below.trans ?_ (Below.mono hw1 ?_)) | (with_reducible exact hw1.size) | omega | (simp <;> omega) | (simp <;> (have s := hw1.size; omega)) | (have s0 := hw1.size; (try simp at s0); (try simp); omega))))).mono ?_); clear c2; rintro e w2 ⟨rfl, hw2⟩; have hc2 := Tail.cells hw2; have zs2 : sb < w2.heap.size := Nat.lt_of_lt_of_le zs hw2.size; have z22 : w.heap.size < w2.heap.size := Nat.lt_of_lt_of_le zw10 hw2.size)
      go_ret2
      exact ⟨rfl, by repeat (first | (with_reducible exact Below.refl _ _) | (with_reducible refine Below.setCell ?_ ?_ _) | (with_reducible refine Below.drew ?_) | (with_reducible refine Below.alloc ?_ ?_ _) | (with_reducible refine Below.trans ?_ (Below.mono hw2 ?_)) | (with_reducible refine Below.trans ?_ (Below.mono hw1 ?_)) | (with_reducible exact hw2.size) | (with_reducible exact hw1.size) | omega | (simp <;> omega) | (simp <;> (have s := hw2.size; omega)) | (simp <;> (have s := hw1.size; omega)) | (have s0 := hw2.size; (try simp at s0); have s1 := hw1.size; (try simp at s1); (try simp); omega))⟩
    · rcases hc with ⟨hm, rfl⟩ | ⟨hm, h0⟩
      · have im1 := fun W => im W (.inr ⟨hm, rfl⟩)
        clear hm im hne
        go_enter Try.func62, Try.ntmps62
        go_wp2
        refine wp_loop_rounds 3 ?_
        rw [rounds_succ]
        go_wp2_with ((with_reducible refine (c1 _ (H.out.later (by repeat (first | (with_reducible exact Below.refl _ _) | (with_reducible refine Below.setCell ?_ ?_ _) | (with_reducible refine Below.drew ?_) | (with_reducible refine Below.alloc ?_ ?_ _) | omega | (simp <;> omega)))) (HP.out.later (by repeat (first | (with_reducible exact Below.refl _ _) | (with_reducible refine Below.setCell ?_ ?_ _) | (with_reducible refine Below.drew ?_) | (with_reducible refine Below.alloc ?_ ?_ _) | omega | (simp <;> omega))))).mono ?_); clear c1; rintro e w1 ⟨rfl, hw1⟩; have hc1 := Tail.cells hw1; have zw10 := Nat.lt_of_lt_of_le (n := w.heap.size) (by simp <;> omega) hw1.size; have zs : sb < w1.heap.size := (by omega))
        rw [rounds_succ]
        go_wp2_with ((with_reducible refine (c2 _ (H.out.later (by repeat (first | (with_reducible exact Below.refl _ _) | (with_reducible refine Below.setCell ?_ ?_ _) | (with_reducible refine Below.drew ?_) | (with_reducible refine Below.alloc ?_ ?_ _) | (with_reducible refine Below.trans ?_ (Below.mono hw1 ?_)) | (with_reducible exact hw1.size) | omega | (simp <;> omega) | (simp <;> (have s := hw1.size; omega)) | (have s0 := hw1.size; (try simp at s0); (try simp); omega)))) (HQ.out.later (by repeat (first | (with_reducible exact Below.refl _ _) | (with_reducible refine Below.setCell ?_ ?_ _) | (with_reducible refine Below.drew ?_) | (with_reducible refine Below.alloc ?_ ?_ _) | (with_reducible refine Below.trans ?_ (Below.mono hw1 ?_)) | (with_reducible exact hw1.size) | omega | (simp <;> omega) | (simp <;> (have s := hw1.size; omega)) | (have s0 := hw1.size; (try simp at s0); (try simp); omega))))).mono ?_); clear c2; rintro e w2 ⟨rfl, hw2⟩; have hc2 := Tail.cells hw2; have zs2 : sb < w2.heap.size := Nat.lt_of_lt_of_le zs hw2.size; have z22 : w.heap.size < w2.heap.size := Nat.lt_of_lt_of_le zw10 hw2.size)
        rw [rounds_succ]
        go_wp2_with ((with_reducible refine (im1 _).mono ?_); rintro e w3 ⟨rfl, rfl⟩)
        go_ret2
        exact ⟨rfl, by repeat (first | (with_reducible exact Below.refl _ _) | (with_reducible refine Below.setCell ?_ ?_ _) | (with_reducible refine Below.drew ?_) | (with_reducible refine Below.alloc ?_ ?_ _) | (with_reducible refine Below.trans ?_ (Below.mono hw2 ?_)) | (with_reducible refine Below.trans ?_ (Below.mono hw1 ?_)) | (with_reducible exact hw2.size) | (with_reducible exact hw1.size) | omega | (simp <;> omega) | (simp <;> (have s := hw2.size; omega)) | (simp <;> (have s := hw1.size; omega)) | (have s0 := hw2.size; (try simp at s0); have s1 := hw1.size; (try simp at s1); (try simp); omega))⟩
      · exact absurd h0 hne
set_option maxHeartbeats 3200000 in
theorem start2_ok (a b c r0 ma : Int) (ao po qo : Option Addr) (cap pc qc sb so : Nat) (L : List Q) (ns : List Int) (M N : List Sp) (w : World) (h : LiesO w ao L) (hp : LiesOI w po (fl M)) (hq : LiesOI w qo (fl N)) (hs : w.cell? ⟨sb, so, none⟩ = some (.slice po M.length pc)) (ht : w.cell? ⟨sb, so + 1, none⟩ = some (.slice qo N.length qc)) (hr : numsR a b c L ns r0) (hv : ms2 L.length M N r0 ma 0) (n : Nat) (hf : Fld7 a b c L n) (hlm : M.length ≤ 1000000) (hln : N.length ≤ 1000000) : Calls Try.prog 62 #[.agg #[.int .i64 a, .int .i64 b, .int .i64 c, .slice ao L.length cap], .int .i64 ma, .slice (some ⟨sb, so, none⟩) 2 2] w fun e w' => RetH w.heap.size n (row (arms a b c L L.length)) e w' ∧ Below w.heap.size w w' := by
  have hlen : L.length ≤ 1000000 := by have := hf.pos; have := hf.l; omega
  obtain ⟨bl, off, rfl, hL⟩ := hf.lies h
  have HLL := Lib.hid hL
  have ch := fun (W : World) (hl : Lies W bl off L) => hoppingOf_any a b c bl off cap n L W hf.z hf.e hf.l hl (fun i x hx => (hf.s i x hx).1)
  have H := Lib.hid h
  have HP := Lib.hid hp
  have hsl := World.block_lt_of_cell? _ _ hs
  have v1 : ∀ (r1 : Int), vS L.length M r0 r1 → ∀ W : World, LiesO W (some ⟨bl, off, none⟩) L → LiesOI W po (fl M) → Calls Try.prog 21 #[.agg #[.int .i64 a, .int .i64 b, .int .i64 c, .slice (some ⟨bl, off, none⟩) L.length cap], .slice po M.length pc] W fun e w' => e = .returned (.int .i64 r1) ∧ Below W.heap.size W w' := fun r1 hv W h h2 => validate7_any a b c r0 r1 (some ⟨bl, off, none⟩) po cap pc L ns M W h h2 hr hv hlen hlm
  have HQ := Lib.hid hq
  have v2 : ∀ (r1 : Int), vS L.length N r0 r1 → ∀ W : World, LiesO W (some ⟨bl, off, none⟩) L → LiesOI W qo (fl N) → Calls Try.prog 21 #[.agg #[.int .i64 a, .int .i64 b, .int .i64 c, .slice (some ⟨bl, off, none⟩) L.length cap], .slice qo N.length qc] W fun e w' => e = .returned (.int .i64 r1) ∧ Below W.heap.size W w' := fun r1 hv W h h2 => validate7_any a b c r0 r1 (some ⟨bl, off, none⟩) qo cap qc L ns N W h h2 hr hv hlen hln
  have him : IsM ma := (ms2_ok hv).2.2.2.2.2
  have im := fun W : World => isMass_any ma W true (.inl ⟨him, rfl⟩)
  have c1 := v1 0 (by
    obtain ⟨r1, h1, ⟨h2, h3⟩ | ⟨h2, -⟩⟩ := hv
    · exact absurd h3.symm h2
    · rw [h2] at h1; exact h1)
  have c2 := v2 0 (by
    obtain ⟨r1, h1, ⟨h2, h3⟩ | ⟨h2, r2, h4, ⟨h5, h6⟩ | ⟨h5, -⟩⟩⟩ := hv
    · exact absurd h3.symm h2
    · exact absurd h6.symm h5
    · rw [h5] at h4; exact h4)
  clear h hp v1 hv hr him hL hf hq v2
  go_enter Try.func62, Try.ntmps62
  go_wp2
  refine wp_loop_rounds 3 ?_
  rw [rounds_succ]
  go_wp2_with ((with_reducible refine (c1 _ (H.out.later (by repeat (first | (with_reducible exact Below.refl _ _) | (with_reducible refine Below.setCell ?_ ?_ _) | (with_reducible refine Below.drew ?_) | (with_reducible refine Below.alloc ?_ ?_ _) | omega | (simp <;> omega)))) (HP.out.later (by repeat (first | (with_reducible exact Below.refl _ _) | (with_reducible refine Below.setCell ?_ ?_ _) | (with_reducible refine Below.drew ?_) | (with_reducible refine Below.alloc ?_ ?_ _) | omega | (simp <;> omega))))).mono ?_); clear c1; rintro e w1 ⟨rfl, hw1⟩; have hc1 := Tail.cells hw1; have zw10 := Nat.lt_of_lt_of_le (n := w.heap.size) (by simp <;> omega) hw1.size; have zs : sb < w1.heap.size := (by omega))
  rw [rounds_succ]
  go_wp2_with ((with_reducible refine (c2 _ (H.out.later (by repeat (first | (with_reducible exact Below.refl _ _) | (with_reducible refine Below.setCell ?_ ?_ _) | (with_reducible refine Below.drew ?_) | (with_reducible refine Below.alloc ?_ ?_ _) | (with_reducible refine Below.trans ?_ (Below.mono hw1 ?_)) | (with_reducible exact hw1.size) | omega | (simp <;> omega) | (simp <;> (have s := hw1.size; omega)) | (have s0 := hw1.size; (try simp at s0); (try simp); omega)))) (HQ.out.later (by repeat (first | (with_reducible exact Below.refl _ _) | (with_reducible refine Below.setCell ?_ ?_ _) | (with_reducible refine Below.drew ?_) | (with_reducible refine Below.alloc ?_ ?_ _) | (with_reducible refine Below.trans ?_ (Below.mono hw1 ?_)) | (with_reducible exact hw1.size) | omega | (simp <;> omega) | (simp <;> (have s := hw1.size; omega)) | (have s0 := hw1.size; (try simp at s0); (try simp); omega))))).mono ?_); clear c2; rintro e w2 ⟨rfl, hw2⟩; have hc2 := Tail.cells hw2; have zs2 : sb < w2.heap.size := Nat.lt_of_lt_of_le zs hw2.size; have z22 : w.heap.size < w2.heap.size := Nat.lt_of_lt_of_le zw10 hw2.size)
  rw [rounds_succ]
  go_wp2_with (first | ((with_reducible refine (im _).mono ?_); rintro e w3 ⟨rfl, rfl⟩) | ((with_reducible refine (ch _ (HLL.out.later (by repeat (first | (with_reducible exact Below.refl _ _) | (with_reducible refine Below.setCell ?_ ?_ _) | (with_reducible refine Below.drew ?_) | (with_reducible refine Below.alloc ?_ ?_ _) | (with_reducible refine Below.trans ?_ (Below.mono hw2 ?_)) | (with_reducible refine Below.trans ?_ (Below.mono hw1 ?_)) | (with_reducible exact hw2.size) | (with_reducible exact hw1.size) | omega | (simp <;> omega) | (simp <;> (have s := hw2.size; omega)) | (simp <;> (have s := hw1.size; omega)) | (have s0 := hw2.size; (try simp at s0); have s1 := hw1.size; (try simp at s1); (try simp); omega))))).mono ?_); rintro e w4 ⟨⟨g, vs, rfl, hH, hg⟩, hw4⟩; have HH := Lib.hid hH; clear hH))
  go_ret2
  have hsz : w.heap.size ≤ w2.heap.size := by omega
  refine ⟨⟨g, vs, rfl, ?_, by omega⟩, by repeat (first | (with_reducible exact Below.refl _ _) | (with_reducible refine Below.setCell ?_ ?_ _) | (with_reducible refine Below.drew ?_) | (with_reducible refine Below.alloc ?_ ?_ _) | (with_reducible refine Below.trans ?_ (Below.mono hw4 ?_)) | (with_reducible refine Below.trans ?_ (Below.mono hw2 ?_)) | (with_reducible refine Below.trans ?_ (Below.mono hw1 ?_)) | (with_reducible exact hw4.size) | (with_reducible exact hw2.size) | (with_reducible exact hw1.size) | omega | (simp <;> omega) | (simp <;> (have s := hw4.size; omega)) | (simp <;> (have s := hw2.size; omega)) | (simp <;> (have s := hw1.size; omega)) | (have s0 := hw4.size; (try simp at s0); have s1 := hw2.size; (try simp at s1); have s2 := hw1.size; (try simp at s2); (try simp); omega))⟩
  have hp := HH.out
  exact ⟨hp.cell, fun s hs => owned_base (hp.own s hs) hsz, hp.far, hp.apart, hp.free, hp.lt⟩
end Go.Proofs.Ytmnlfojcofdaeaa
