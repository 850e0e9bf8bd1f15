/- Vectors turned by small units, as the program and the document's answers make them.
Conditions: the lists lie in memory as it is written at each theorem. -/
import Derived.Test.YtmnlfojcofdaeaaRsC
import Derived.Test.YtmnlfojcofdaeaaRrC
import Derived.Test.YtmnlfojcofdaeaaNumber
namespace Go.Proofs.Ytmnlfojcofdaeaa
set_option linter.unusedVariables false
set_option linter.unusedSimpArgs false
set_option maxRecDepth 1000000
open Go.RowKit
open Um Tm Fm

/-- a valid unit that is small -/
def SmU (u : Q) : Prop := V u ∧ u.n ≤ 2
theorem small_facts : ∀ k : Nat, k < 24 → g (small k) = 1 ∧ (small k).a * (small k).a + (small k).b * (small k).b + (small k).c * (small k).c + (small k).d * (small k).d = (small k).n * (small k).n ∧ 1 ≤ (small k).n ∧ (small k).n ≤ 2 := by decide +kernel
theorem smNumR {u : Q} {r : Int} (h : NumR u r true) : SmU u := by
  rcases h with ⟨k, hk, rfl, -, -, -⟩ | ⟨-, -, h⟩
  · obtain ⟨h1, h2, h3, h4⟩ := small_facts k hk
    exact ⟨⟨⟨by omega, h2⟩, h1, by omega⟩, h4⟩
  · cases h
def five : List Int := [-2, -1, 0, 1, 2]
theorem five_of {x : Int} (h : -2 ≤ x ∧ x ≤ 2) : x ∈ five := by
  have : x = -2 ∨ x = -1 ∨ x = 0 ∨ x = 1 ∨ x = 2 := by omega
  rcases this with h | h | h | h | h <;> subst h <;> decide
theorem small_all : ∀ n ∈ ([1, 2] : List Int), ∀ a ∈ five, ∀ b ∈ five, ∀ c ∈ five, ∀ d ∈ five, a * a + b * b + c * c + d * d = n * n → g ⟨a, b, c, d, n⟩ = 1 → ∃ k ∈ List.range 24, small (k : Int) = ⟨a, b, c, d, n⟩ := by decide +kernel
theorem sq_four {x : Int} (h : x * x ≤ 4) : -2 ≤ x ∧ x ≤ 2 := by
  refine ⟨?_, ?_⟩
  · by_cases h1 : -2 ≤ x
    · exact h1
    · have : 3 * 3 ≤ (-x) * (-x) := Int.mul_le_mul (by omega) (by omega) (by omega) (by omega)
      rw [Int.neg_mul_neg] at this
      omega
  · by_cases h1 : x ≤ 2
    · exact h1
    · have : 3 * 3 ≤ x * x := Int.mul_le_mul (by omega) (by omega) (by omega) (by omega)
      omega
theorem smNumR' {u : Q} {r : Int} {b : Bool} (h : NumR u r b) (hs : SmU u) : b = true := by
  rcases h with ⟨_, _, _, _, _, h⟩ | ⟨h, -, -⟩
  · exact h
  · exfalso
    obtain ⟨hv, h2⟩ := hs
    have hp := hv.u.pos
    have hl := hv.u.len
    have hg := hv.prim
    obtain ⟨a, b, c, d, n⟩ := u
    dsimp only at hp hl h2
    have sq : ∀ z : Int, 0 ≤ z * z := fun z => by
      rcases Int.le_total 0 z with h | h
      · exact Int.mul_nonneg h h
      · exact Int.mul_nonneg_of_nonpos_of_nonpos h h
    have := sq a; have := sq b; have := sq c; have := sq d
    have hn : n = 1 ∨ n = 2 := by omega
    have hnn : n * n ≤ 4 := by rcases hn with h | h <;> subst h <;> decide
    obtain ⟨k, hk, he⟩ := small_all n (by rcases hn with h | h <;> subst h <;> decide) a (five_of (sq_four (by omega))) b (five_of (sq_four (by omega))) c (five_of (sq_four (by omega))) d (five_of (sq_four (by omega))) hl hg
    exact h k (List.mem_range.1 hk) he
theorem num7 (u : Q) : ∃ (r er : Int) (b : Bool), (∀ W : World, Calls Try.prog 69 #[.agg #[.int .i64 u.a, .int .i64 u.b, .int .i64 u.c, .int .i64 u.d, .int .i64 u.n]] W fun e w' => e = .returned (.tuple #[.int .i64 r, .bool b, .int .i64 er]) ∧ Below W.heap.size W w') ∧ ((SmU u ∧ b = true) ∨ (¬ SmU u ∧ b = false)) := by
  by_cases hv : V u
  · obtain ⟨r, b, hr⟩ := NumR.ex u
    refine ⟨r, 0, b, fun W => number_ok u r b W hv hr, ?_⟩
    by_cases hs : SmU u
    · exact .inl ⟨hs, smNumR' hr hs⟩
    · refine .inr ⟨hs, ?_⟩
      cases b
      · rfl
      · exact absurd (smNumR hr) hs
  · exact ⟨0, 1, false, fun W => number_bad u W hv, .inr ⟨fun h => hv h.1, rfl⟩⟩
theorem SmU.n12 {u : Q} (h : SmU u) : N12 u := by
  have := h.1.u.pos
  have := h.2
  show u.n = 1 ∨ u.n = 2
  omega
def AllU (U : List Q) : Prop := ∀ (i : Nat) (x : Q), U[i]? = some x → SmU x
/-- a turned value -/
def tuV (U : List Q) (M : List Sp) (s : Nat) : Sp := (mulS (tw (U.getD s zero)).w (at0 M s)).w
/-- the first k values turned, zeros behind -/
def tuK (U : List Q) (M : List Sp) (k : Nat) : List Sp := tab M.length (fun s => if s < k then tuV U M s else zs)
def tuL (U : List Q) (M : List Sp) : List Sp := tab M.length (tuV U M)
theorem tuK_len (U : List Q) (M : List Sp) (k : Nat) : (tuK U M k).length = M.length := tab_len _ _
theorem tuL_len (U : List Q) (M : List Sp) : (tuL U M).length = M.length := tab_len _ _
theorem tuK_zero (U : List Q) (M : List Sp) : tuK U M 0 = List.replicate M.length zs := by
  refine List.ext_getElem? fun i => ?_
  by_cases hi : i < M.length
  · rw [tuK, tab_at _ hi, if_neg (by omega), List.getElem?_replicate, if_pos hi]
  · rw [List.getElem?_eq_none (by rw [tuK_len]; omega), List.getElem?_eq_none (by simp; omega)]
theorem tuK_end (U : List Q) (M : List Sp) : tuK U M M.length = tuL U M := tab_congr fun s hs => if_pos hs
theorem tuK_set (U : List Q) (M : List Sp) {k : Nat} : (tuK U M k).set k (tuV U M k) = tuK U M (k + 1) := by
  unfold tuK
  rw [tab_set]
  refine tab_congr fun s _ => ?_
  by_cases h1 : s = k
  · subst h1; rw [if_pos rfl, if_pos (by omega)]
  · rw [if_neg h1]
    by_cases h2 : s < k
    · rw [if_pos h2, if_pos (by omega)]
    · rw [if_neg h2, if_neg (by omega)]
theorem tuV_at {U : List Q} {M : List Sp} {k : Nat} {u : Q} {x : Sp} (hu : U[k]? = some u) (hx : M[k]? = some x) : tuV U M k = (mulS (tw u).w x).w := by
  unfold tuV
  rw [at0_of hx, List.getD_eq_getElem?_getD, hu]; rfl
theorem tuL_at {U : List Q} {M : List Sp} {k : Nat} {u : Q} {x : Sp} (hu : U[k]? = some u) (hx : M[k]? = some x) : (tuL U M)[k]? = some (mulS (tw u).w x).w := by
  unfold tuL
  rw [tab_at _ (List.getElem?_eq_some_iff.1 hx).1, tuV_at hu hx]
/-- the error of a field, a list of units and a vector -/
def tuR (m : Nat) (M : List Sp) (U : List Q) (r0 r : Int) : Prop := ∃ r1, vS m M r0 r1 ∧ ((r1 ≠ 0 ∧ r = r1) ∨ (r1 = 0 ∧ ((U.length = M.length ∧ AllU U ∧ r = 0) ∨ (¬ (U.length = M.length ∧ AllU U) ∧ r = 1))))
theorem tuR_ex (m : Nat) (M : List Sp) (U : List Q) (r0 : Int) : ∃ r, tuR m M U r0 r := by
  obtain ⟨r1, h⟩ := vS_ex m M r0
  by_cases h0 : r1 = 0
  · by_cases h2 : U.length = M.length ∧ AllU U
    · exact ⟨0, r1, h, .inr ⟨h0, .inl ⟨h2.1, h2.2, rfl⟩⟩⟩
    · exact ⟨1, r1, h, .inr ⟨h0, .inr ⟨h2, rfl⟩⟩⟩
  · exact ⟨r1, r1, h, .inl ⟨h0, rfl⟩⟩
set_option maxHeartbeats 1600000 in
theorem turned_err (a b c r0 r1 : Int) (ao uo po : Option Addr) (cap uc pc : Nat) (L : List Q) (ns : List Int) (U : List Q) (M : List Sp) (w : World) (h : LiesO w ao L) (hu : LiesO w uo U) (hp : LiesOI w po (fl M)) (hr : numsR a b c L ns r0) (hv : vS L.length M r0 r1) (hne : r1 ≠ 0) (hlen : L.length ≤ 1000000) (hlm : M.length ≤ 1000000) : Calls Try.prog 37 #[.agg #[.int .i64 a, .int .i64 b, .int .i64 c, .slice ao L.length cap], .slice uo U.length uc, .slice po M.length pc] w fun e w' => e = .returned (.tuple #[.slice none 0 0, .int .i64 r1]) ∧ Below w.heap.size w w' := by
  have H := Lib.hid h
  have HP := Lib.hid hp
  have v1 : ∀ W : World, LiesO W ao L → LiesOI W po (fl M) → Calls Try.prog 21 #[.agg #[.int .i64 a, .int .i64 b, .int .i64 c, .slice ao L.length cap], .slice po M.length pc] W fun e w' => e = .returned (.int .i64 r1) ∧ Below W.heap.size W w' := fun W h h2 => validate7_any a b c r0 r1 ao po cap pc L ns M W h h2 hr hv hlen hlm
  have t1 : (r1 != 0) = true := by simpa using hne
  clear h hp hr hv hne hu
  go_enter Try.func37, Try.ntmps37
  go_wp2_with ((with_reducible refine (v1 _ (H.out.later (by repeat (first | (with_reducible exact Below.refl _ _) | (with_reducible refine Below.setCell ?_ ?_ _) | (with_reducible refine Below.drew ?_) | (with_reducible refine Below.alloc ?_ ?_ _) | omega | (simp <;> omega)))) (HP.out.later (by repeat (first | (with_reducible exact Below.refl _ _) | (with_reducible refine Below.setCell ?_ ?_ _) | (with_reducible refine Below.drew ?_) | (with_reducible refine Below.alloc ?_ ?_ _) | omega | (simp <;> omega))))).mono ?_); clear v1; rintro e w1 ⟨rfl, hw1⟩)
  go_ret2
  exact ⟨rfl, by repeat (first | (with_reducible exact Below.refl _ _) | (with_reducible refine Below.setCell ?_ ?_ _) | (with_reducible refine Below.drew ?_) | (with_reducible refine Below.alloc ?_ ?_ _) | (with_reducible refine Below.trans ?_ (Below.mono hw1 ?_)) | (with_reducible exact hw1.size) | omega | (simp <;> omega) | (simp <;> (have s := hw1.size; omega)) | (have s0 := hw1.size; (try simp at s0); (try simp); omega))⟩
set_option maxHeartbeats 1600000 in
theorem turned_off (a b c r0 r1 : Int) (ao uo po : Option Addr) (cap uc pc : Nat) (L : List Q) (ns : List Int) (U : List Q) (M : List Sp) (w : World) (h : LiesO w ao L) (hu : LiesO w uo U) (hp : LiesOI w po (fl M)) (hr : numsR a b c L ns r0) (hv : vS L.length M r0 r1) (h0 : r1 = 0) (hl : ¬ U.length = M.length) (hlen : L.length ≤ 1000000) (hlm : M.length ≤ 1000000) : Calls Try.prog 37 #[.agg #[.int .i64 a, .int .i64 b, .int .i64 c, .slice ao L.length cap], .slice uo U.length uc, .slice po M.length pc] w fun e w' => e = .returned (.tuple #[.slice none 0 0, .int .i64 1]) ∧ Below w.heap.size w w' := by
  subst h0
  have H := Lib.hid h
  have HP := Lib.hid hp
  have v1 : ∀ W : World, LiesO W ao L → LiesOI W po (fl M) → Calls Try.prog 21 #[.agg #[.int .i64 a, .int .i64 b, .int .i64 c, .slice ao L.length cap], .slice po M.length pc] W fun e w' => e = .returned (.int .i64 0) ∧ Below W.heap.size W w' := fun W h h2 => validate7_any a b c r0 0 ao po cap pc L ns M W h h2 hr hv hlen hlm
  have i1 : ¬ (U.length : Int) = (M.length : Int) := by omega
  clear h hp hr hv hu hl
  go_enter Try.func37, Try.ntmps37
  go_wp2_with ((with_reducible refine (v1 _ (H.out.later (by repeat (first | (with_reducible exact Below.refl _ _) | (with_reducible refine Below.setCell ?_ ?_ _) | (with_reducible refine Below.drew ?_) | (with_reducible refine Below.alloc ?_ ?_ _) | omega | (simp <;> omega)))) (HP.out.later (by repeat (first | (with_reducible exact Below.refl _ _) | (with_reducible refine Below.setCell ?_ ?_ _) | (with_reducible refine Below.drew ?_) | (with_reducible refine Below.alloc ?_ ?_ _) | omega | (simp <;> omega))))).mono ?_); clear v1; rintro e w1 ⟨rfl, hw1⟩)
  go_ret2
  exact ⟨rfl, by repeat (first | (with_reducible exact Below.refl _ _) | (with_reducible refine Below.setCell ?_ ?_ _) | (with_reducible refine Below.drew ?_) | (with_reducible refine Below.alloc ?_ ?_ _) | (with_reducible refine Below.trans ?_ (Below.mono hw1 ?_)) | (with_reducible exact hw1.size) | omega | (simp <;> omega) | (simp <;> (have s := hw1.size; omega)) | (have s0 := hw1.size; (try simp at s0); (try simp); omega))⟩
set_option maxHeartbeats 1600000 in
theorem refTurned_err (a b c r0 r1 : Int) (ao uo po : Option Addr) (cap uc pc : Nat) (L : List Q) (ns : List Int) (U : List Q) (M : List Sp) (w : World) (h : LiesO w ao L) (hu : LiesO w uo U) (hp : LiesOI w po (fl M)) (hr : numsR a b c L ns r0) (hv : vS L.length M r0 r1) (hne : r1 ≠ 0) (hlen : L.length ≤ 1000000) (hlm : M.length ≤ 1000000) : Calls Try.prog 38 #[.agg #[.int .i64 a, .int .i64 b, .int .i64 c, .slice ao L.length cap], .slice uo U.length uc, .slice po M.length pc] w fun e w' => e = .returned (.tuple #[.slice none 0 0, .int .i64 r1]) ∧ Below w.heap.size w w' := by
  have H := Lib.hid h
  have HP := Lib.hid hp
  have v1 : ∀ W : World, LiesO W ao L → LiesOI W po (fl M) → Calls Try.prog 22 #[.agg #[.int .i64 a, .int .i64 b, .int .i64 c, .slice ao L.length cap], .slice po M.length pc] W fun e w' => e = .returned (.int .i64 r1) ∧ Below W.heap.size W w' := fun W h h2 => refValidate7_any a b c r0 r1 ao po cap pc L ns M W h h2 hr hv hlen hlm
  have t1 : (r1 != 0) = true := by simpa using hne
  clear h hp hr hv hne hu
  go_enter Try.func38, Try.ntmps38
  go_wp2_with ((with_reducible refine (v1 _ (H.out.later (by repeat (first | (with_reducible exact Below.refl _ _) | (with_reducible refine Below.setCell ?_ ?_ _) | (with_reducible refine Below.drew ?_) | (with_reducible refine Below.alloc ?_ ?_ _) | omega | (simp <;> omega)))) (HP.out.later (by repeat (first | (with_reducible exact Below.refl _ _) | (with_reducible refine Below.setCell ?_ ?_ _) | (with_reducible refine Below.drew ?_) | (with_reducible refine Below.alloc ?_ ?_ _) | omega | (simp <;> omega))))).mono ?_); clear v1; rintro e w1 ⟨rfl, hw1⟩)
  go_ret2
  exact ⟨rfl, by repeat (first | (with_reducible exact Below.refl _ _) | (with_reducible refine Below.setCell ?_ ?_ _) | (with_reducible refine Below.drew ?_) | (with_reducible refine Below.alloc ?_ ?_ _) | (with_reducible refine Below.trans ?_ (Below.mono hw1 ?_)) | (with_reducible exact hw1.size) | omega | (simp <;> omega) | (simp <;> (have s := hw1.size; omega)) | (have s0 := hw1.size; (try simp at s0); (try simp); omega))⟩
set_option maxHeartbeats 1600000 in
theorem refTurned_off (a b c r0 r1 : Int) (ao uo po : Option Addr) (cap uc pc : Nat) (L : List Q) (ns : List Int) (U : List Q) (M : List Sp) (w : World) (h : LiesO w ao L) (hu : LiesO w uo U) (hp : LiesOI w po (fl M)) (hr : numsR a b c L ns r0) (hv : vS L.length M r0 r1) (h0 : r1 = 0) (hl : ¬ U.length = M.length) (hlen : L.length ≤ 1000000) (hlm : M.length ≤ 1000000) : Calls Try.prog 38 #[.agg #[.int .i64 a, .int .i64 b, .int .i64 c, .slice ao L.length cap], .slice uo U.length uc, .slice po M.length pc] w fun e w' => e = .returned (.tuple #[.slice none 0 0, .int .i64 1]) ∧ Below w.heap.size w w' := by
  subst h0
  have H := Lib.hid h
  have HP := Lib.hid hp
  have v1 : ∀ W : World, LiesO W ao L → LiesOI W po (fl M) → Calls Try.prog 22 #[.agg #[.int .i64 a, .int .i64 b, .int .i64 c, .slice ao L.length cap], .slice po M.length pc] W fun e w' => e = .returned (.int .i64 0) ∧ Below W.heap.size W w' := fun W h h2 => refValidate7_any a b c r0 0 ao po cap pc L ns M W h h2 hr hv hlen hlm
  have i1 : ¬ (U.length : Int) = (M.length : Int) := by omega
  clear h hp hr hv hu hl
  go_enter Try.func38, Try.ntmps38
  go_wp2_with ((with_reducible refine (v1 _ (H.out.later (by repeat (first | (with_reducible exact Below.refl _ _) | (with_reducible refine Below.setCell ?_ ?_ _) | (with_reducible refine Below.drew ?_) | (with_reducible refine Below.alloc ?_ ?_ _) | omega | (simp <;> omega)))) (HP.out.later (by repeat (first | (with_reducible exact Below.refl _ _) | (with_reducible refine Below.setCell ?_ ?_ _) | (with_reducible refine Below.drew ?_) | (with_reducible refine Below.alloc ?_ ?_ _) | omega | (simp <;> omega))))).mono ?_); clear v1; rintro e w1 ⟨rfl, hw1⟩)
  go_ret2
  exact ⟨rfl, by repeat (first | (with_reducible exact Below.refl _ _) | (with_reducible refine Below.setCell ?_ ?_ _) | (with_reducible refine Below.drew ?_) | (with_reducible refine Below.alloc ?_ ?_ _) | (with_reducible refine Below.trans ?_ (Below.mono hw1 ?_)) | (with_reducible exact hw1.size) | omega | (simp <;> omega) | (simp <;> (have s := hw1.size; omega)) | (have s0 := hw1.size; (try simp at s0); (try simp); omega))⟩
set_option maxHeartbeats 6400000 in
theorem turned_on (a b c r0 r1 : Int) (ao uo po : Option Addr) (cap uc pc : Nat) (L : List Q) (ns : List Int) (U : List Q) (M : List Sp) (w : World) (h : LiesO w ao L) (hu : LiesO w uo U) (hp : LiesOI w po (fl M)) (hr : numsR a b c L ns r0) (hv : vS L.length M r0 r1) (h0 : r1 = 0) (hl : U.length = M.length) (hpos : 0 < M.length) (hlen : L.length ≤ 1000000) (hlm : M.length ≤ 1000000) : Calls Try.prog 37 #[.agg #[.int .i64 a, .int .i64 b, .int .i64 c, .slice ao L.length cap], .slice uo U.length uc, .slice po M.length pc] w fun e w' => ((AllU U ∧ RetV7 w.heap.size M.length (tuL U M) e w') ∨ (¬ AllU U ∧ e = .returned (.tuple #[.slice none 0 0, .int .i64 1]))) ∧ Below w.heap.size w w' := by
  subst h0
  obtain ⟨ub, uf, rfl, hU⟩ : ∃ b off, uo = some ⟨b, off, none⟩ ∧ Lies w b off U := by
    rcases hu with h | h
    · exact absurd hpos (by rw [← hl, h]; decide)
    · exact h
  obtain ⟨pb, pf, rfl, hP⟩ := lies_some hp (List.getElem?_eq_getElem hpos)
  have H := Lib.hid h
  have HP := Lib.hid hp
  have v1 : ∀ W : World, LiesO W ao L → LiesOI W (some ⟨pb, pf, none⟩) (fl M) → Calls Try.prog 21 #[.agg #[.int .i64 a, .int .i64 b, .int .i64 c, .slice ao L.length cap], .slice (some ⟨pb, pf, none⟩) M.length pc] W fun e w' => e = .returned (.int .i64 0) ∧ Below W.heap.size W w' := fun W h h2 => validate7_any a b c r0 0 ao (some ⟨pb, pf, none⟩) cap pc L ns M W h h2 hr hv hlen hlm
  have mk := fun (W : World) => makeS W M.length M.length rfl hlm
  have HU0 := Lib.hid hU
  have HP0 := Lib.hid hP
  have HLU := Lib.hid hl
  have HPO := Lib.hid hpos
  have hub : ub < w.heap.size := World.block_lt_of_cell? _ _ (hU 0 _ (List.getElem?_eq_getElem (by omega))).1
  have hpb := fl_lt hP hpos
  rw [hl]
  clear h hp hr hv hU hP hl hu hpos hlen
  have kc := @Tail.cell_re
  have kc1 : ∀ (W : World) (o : Obj) (d : Nat) (os : Array Obj) (a : Addr), a.block ≤ W.heap.size → (Sort.grow (redrawn (W.alloc o) d) os).cell? a = (W.alloc o).cell? a := fun W o d os a h => Tail.cell_re (W.alloc o) d os a (Nat.lt_of_le_of_lt h (by simp))
  go_enter Try.func37, Try.ntmps37
  go_wp2_with ((with_reducible refine (v1 _ (H.out.later (by repeat (first | (with_reducible exact Below.refl _ _) | (with_reducible refine Below.setCell ?_ ?_ _) | (with_reducible refine Below.drew ?_) | (with_reducible refine Below.alloc ?_ ?_ _) | omega | (simp <;> omega)))) (HP.out.later (by repeat (first | (with_reducible exact Below.refl _ _) | (with_reducible refine Below.setCell ?_ ?_ _) | (with_reducible refine Below.drew ?_) | (with_reducible refine Below.alloc ?_ ?_ _) | omega | (simp <;> omega))))).mono ?_); clear v1; rintro e w1 ⟨rfl, hw1⟩; have HW1 := Lib.hid (show Below w.heap.size w w1 by repeat (first | (with_reducible exact Below.refl _ _) | (with_reducible refine Below.setCell ?_ ?_ _) | (with_reducible refine Below.drew ?_) | (with_reducible refine Below.alloc ?_ ?_ _) | (with_reducible refine Below.trans ?_ (Below.mono hw1 ?_)) | (with_reducible exact hw1.size) | omega | (simp <;> omega) | (simp <;> (have s := hw1.size; omega)) | (have s0 := hw1.size; (try simp at s0); (try simp); omega))); clear hw1)
  have k0 : IBox (w1.alloc (.cells (madeCells sz.toArray (M.length * 4)) 64)) w1.heap.size (fl (tuK U M 0)) := by
    rw [tuK_zero]
    exact IBox.madeS (T := 64) (heap_alloc_new _ _) (by simp)
  have K0 := Lib.hid k0
  have B0 := Lib.hid (show Below w1.heap.size w1 (w1.alloc (.cells (madeCells sz.toArray (M.length * 4)) 64)) by repeat (first | (with_reducible exact Below.refl _ _) | (with_reducible refine Below.setCell ?_ ?_ _) | (with_reducible refine Below.drew ?_) | (with_reducible refine Below.alloc ?_ ?_ _) | omega | (simp <;> omega)))
  have HU := Lib.hid (HU0.out.later HW1.out)
  have HP1 := Lib.hid (HP0.out.later HW1.out)
  have hub1 : ub < w1.heap.size := Nat.lt_of_lt_of_le hub HW1.out.size
  have hpb1 : pb < w1.heap.size := Nat.lt_of_lt_of_le hpb HW1.out.size
  clear k0 hub hpb H HP HU0 HP0
  generalize w1.alloc (.cells (madeCells sz.toArray (M.length * 4)) 64) = W0 at *
  go_loopw [10, 11, 12, 13, 14, 31] (fun _ _ _ _ _ q wr => ∃ k : Nat, k ≤ M.length ∧ q = .int .i64 k ∧ Hid (∀ (i : Nat) (x : Q), i < k → U[i]? = some x → SmU x) ∧ Hid (IBox wr w1.heap.size (fl (tuK U M k))) ∧ Hid (Below w1.heap.size w1 wr)) (fun _ _ _ _ _ q _ => M.length - (intOf q).toNat)
  case atStart => exact ⟨0, by omega, rfl, Lib.hid (fun i x hi => by omega), K0, B0⟩
  case round =>
    obtain ⟨k, hk, rfl, hsm, hx, hb⟩ := hrel
    clear K0 B0
    by_cases hlt : k < M.length
    · have i1 : (k : Int) < (M.length : Int) := by omega
      have hku : k < U.length := by have := HLU.out; omega
      have eu : U[k]? = some U[k] := List.getElem?_eq_getElem hku
      have ex : M[k]? = some M[k] := List.getElem?_eq_getElem hlt
      obtain ⟨r, er, bq, cn, hq⟩ := num7 U[k]
      obtain ⟨l0, l1, l2, l3, l4⟩ := HU.out.later hb.out k _ eu
      have hlw : ub < wr.heap.size := Nat.lt_of_lt_of_le hub1 hb.out.size
      have hbs := hb.out.size
      rcases hq with ⟨hs, rfl⟩ | ⟨hs, rfl⟩
      · have ct := fun W : World => twice7_any U[k] W hs.n12
        have cm := fun W : World => times7_any (tw U[k]).w M[k] W
        have hset := tuK_set U M (k := k)
        rw [tuV_at eu ex] at hset
        have HS := Lib.hid hset
        have HX := Lib.hid ex
        have hsm' := Lib.hid (show ∀ (i : Nat) (x : Q), i < k + 1 → U[i]? = some x → SmU x from fun i x hi h => by
          by_cases h1 : i < k
          · exact hsm.out i x h1 h
          · obtain rfl : i = k := by omega
            rw [eu] at h
            cases h
            exact hs)
        clear hset hsm hs eu ex
        generalize U[k] = u at *
        generalize M[k] = x at *
        generalize (mulS (tw u).w x).w = v at *
        generalize (tw u).w = tq at *
        go_wp2_with ((with_reducible refine (cn _).mono ?_); clear cn; rintro e w2 ⟨rfl, hw2⟩)
        have bW : Below wr.heap.size wr w2 := by repeat (first | (with_reducible exact Below.refl _ _) | (with_reducible refine Below.setCell ?_ ?_ _) | (with_reducible refine Below.drew ?_) | (with_reducible refine Below.alloc ?_ ?_ _) | (with_reducible refine Below.trans ?_ (Below.mono hw2 ?_)) | (with_reducible exact hw2.size) | omega | (simp <;> omega) | (simp <;> (have s := hw2.size; omega)) | (have s0 := hw2.size; (try simp at s0); (try simp); omega))
        have hc2 := Tail.cells hw2
        have u0 : w2.cell? ⟨wr.heap.size, 0, none⟩ = some (.int .i64 u.a) := (hc2.1 _ _ (by simp)).trans (by simp [go_sem])
        have u1 : w2.cell? ⟨wr.heap.size, 1, none⟩ = some (.int .i64 u.b) := (hc2.1 _ _ (by simp)).trans (by simp [go_sem])
        have u2 : w2.cell? ⟨wr.heap.size, 2, none⟩ = some (.int .i64 u.c) := (hc2.1 _ _ (by simp)).trans (by simp [go_sem])
        have u3 : w2.cell? ⟨wr.heap.size, 3, none⟩ = some (.int .i64 u.d) := (hc2.1 _ _ (by simp)).trans (by simp [go_sem])
        have u4 : w2.cell? ⟨wr.heap.size, 4, none⟩ = some (.int .i64 u.n) := (hc2.1 _ _ (by simp)).trans (by simp [go_sem])
        have ult : wr.heap.size < w2.heap.size := Nat.lt_of_lt_of_le (by simp) hw2.size
        have X2 := Lib.hid (hx.out.later bW)
        have B2 := Lib.hid (hb.out.trans (bW.mono hb.out.size))
        obtain ⟨y0, y1, y2, y3⟩ := four_at (HP1.out.later B2.out) HX.out
        have plt : pb < w2.heap.size := World.block_lt_of_cell? _ _ y0
        have xlt := X2.out.lt
        clear l0 l1 l2 l3 l4 hlw hw2 hc2 bW hx hb
        refine Tail.region_tail_below 10 (by kernel_rfl) (by kernel_rfl) ?_
        simp only [List.take_succ_cons, List.take_zero, List.drop_succ_cons, List.drop_zero]
        repeat (go_big_quiet_step (first | (with_reducible exact Calls.regrown_of (ct _)) | (with_reducible exact Calls.regrown_of (cm _))))
        refine wpQuiet_nil ?_
        intro w3 hw3
        have X3 := Lib.hid (X2.out.later hw3)
        have B3 := Lib.hid (B2.out.trans (hw3.mono B2.out.size))
        clear u0 u1 u2 u3 u4 ult y0 y1 y2 y3 plt xlt hw3
        have hkl : k < (tuK U M k).length := by rw [tuK_len]; exact hlt
        obtain ⟨x0, x1, x2, x3⟩ := X3.out.four (List.getElem?_eq_getElem hkl)
        have xf := X3.out.free
        have xlt := X3.out.lt
        go_wp2
        have X4 := X3.out.put4 (s := k) hkl v
        rw [HS.out] at X4
        have HX4 := Lib.hid X4
        have B4 := Lib.hid (B3.out.grown (grown_four w3 w1.heap.size k v) B3.out.size (fun j hj => by simp at hj; omega))
        exact ⟨⟨k + 1, by omega, by go_num, hsm', HX4, B4⟩, by simp [intOf]; omega⟩
      · have hno : ¬ AllU U := fun h => hs (h k _ eu)
        have HNO := Lib.hid hno
        clear hno hs eu ex
        generalize U[k] = u at *
        go_wp2_with ((with_reducible refine (cn _).mono ?_); clear cn; rintro e w2 ⟨rfl, hw2⟩)
        all_goals
          go_ret2
          exact ⟨.inr ⟨HNO.out, rfl⟩, by repeat (first | (with_reducible exact Below.refl _ _) | (with_reducible refine Below.setCell ?_ ?_ _) | (with_reducible refine Below.drew ?_) | (with_reducible refine Below.alloc ?_ ?_ _) | (with_reducible refine Below.trans ?_ (Below.mono hw2 ?_)) | (with_reducible refine Below.trans ?_ (Below.mono hb.out ?_)) | (with_reducible refine Below.trans ?_ (Below.mono HW1.out ?_)) | (with_reducible exact hw2.size) | (with_reducible exact hb.out.size) | (with_reducible exact HW1.out.size) | omega | (simp <;> omega) | (simp <;> (have s := hw2.size; omega)) | (simp <;> (have s := hb.out.size; omega)) | (simp <;> (have s := HW1.out.size; omega)) | (have s0 := hw2.size; (try simp at s0); have s1 := hb.out.size; (try simp at s1); have s2 := HW1.out.size; (try simp at s2); (try simp); omega))⟩
    · obtain rfl : k = M.length := by omega
      have hall : AllU U := fun i x h => hsm.out i x (by have := (List.getElem?_eq_some_iff.1 h).1; have := HLU.out; omega) h
      have HALL := Lib.hid hall
      clear hall
      have hx2 := hx.out
      rw [tuK_end] at hx2
      have HX2 := Lib.hid hx2
      clear hx2
      go_wp2
      all_goals
        go_ret2
        exact ⟨.inl ⟨HALL.out, _, _, rfl, HX2.out, HW1.out.size⟩, HW1.out.trans (hb.out.mono HW1.out.size)⟩
set_option maxHeartbeats 6400000 in
theorem refTurned_on (a b c r0 r1 : Int) (ao uo po : Option Addr) (cap uc pc : Nat) (L : List Q) (ns : List Int) (U : List Q) (M : List Sp) (w : World) (h : LiesO w ao L) (hu : LiesO w uo U) (hp : LiesOI w po (fl M)) (hr : numsR a b c L ns r0) (hv : vS L.length M r0 r1) (h0 : r1 = 0) (hl : U.length = M.length) (hpos : 0 < M.length) (hlen : L.length ≤ 1000000) (hlm : M.length ≤ 1000000) : Calls Try.prog 38 #[.agg #[.int .i64 a, .int .i64 b, .int .i64 c, .slice ao L.length cap], .slice uo U.length uc, .slice po M.length pc] w fun e w' => ((AllU U ∧ RetL7 w.heap.size M.length (tuL U M) e w') ∨ (¬ AllU U ∧ e = .returned (.tuple #[.slice none 0 0, .int .i64 1]))) ∧ Below w.heap.size w w' := by
  subst h0
  obtain ⟨i0, hi, hz0, hz1, hz2⟩ := info_parts infoS
  obtain ⟨ub, uf, rfl, hU⟩ : ∃ b off, uo = some ⟨b, off, none⟩ ∧ Lies w b off U := by
    rcases hu with h | h
    · exact absurd hpos (by rw [← hl, h]; decide)
    · exact h
  obtain ⟨pb, pf, rfl, hP⟩ := lies_some hp (List.getElem?_eq_getElem hpos)
  have H := Lib.hid h
  have HP := Lib.hid hp
  have v1 : ∀ W : World, LiesO W ao L → LiesOI W (some ⟨pb, pf, none⟩) (fl M) → Calls Try.prog 22 #[.agg #[.int .i64 a, .int .i64 b, .int .i64 c, .slice ao L.length cap], .slice (some ⟨pb, pf, none⟩) M.length pc] W fun e w' => e = .returned (.int .i64 0) ∧ Below W.heap.size W w' := fun W h h2 => refValidate7_any a b c r0 0 ao (some ⟨pb, pf, none⟩) cap pc L ns M W h h2 hr hv hlen hlm
  have HU0 := Lib.hid hU
  have HP0 := Lib.hid hP
  have HLU := Lib.hid hl
  have HPO := Lib.hid hpos
  have hub : ub < w.heap.size := World.block_lt_of_cell? _ _ (hU 0 _ (List.getElem?_eq_getElem (by omega))).1
  have hpb := fl_lt hP hpos
  rw [hl]
  clear h hp hr hv hU hP hl hu hpos hlen
  have kc := @Tail.cell_re
  have kc1 : ∀ (W : World) (o : Obj) (d : Nat) (os : Array Obj) (a : Addr), a.block ≤ W.heap.size → (Sort.grow (redrawn (W.alloc o) d) os).cell? a = (W.alloc o).cell? a := fun W o d os a h => Tail.cell_re (W.alloc o) d os a (Nat.lt_of_le_of_lt h (by simp))
  go_enter Try.func38, Try.ntmps38
  go_wp2_with ((with_reducible refine (v1 _ (H.out.later (by repeat (first | (with_reducible exact Below.refl _ _) | (with_reducible refine Below.setCell ?_ ?_ _) | (with_reducible refine Below.drew ?_) | (with_reducible refine Below.alloc ?_ ?_ _) | omega | (simp <;> omega)))) (HP.out.later (by repeat (first | (with_reducible exact Below.refl _ _) | (with_reducible refine Below.setCell ?_ ?_ _) | (with_reducible refine Below.drew ?_) | (with_reducible refine Below.alloc ?_ ?_ _) | omega | (simp <;> omega))))).mono ?_); clear v1; rintro e w1 ⟨rfl, hw1⟩; have HW1 := Lib.hid (show Below w.heap.size w w1 by repeat (first | (with_reducible exact Below.refl _ _) | (with_reducible refine Below.setCell ?_ ?_ _) | (with_reducible refine Below.drew ?_) | (with_reducible refine Below.alloc ?_ ?_ _) | (with_reducible refine Below.trans ?_ (Below.mono hw1 ?_)) | (with_reducible exact hw1.size) | omega | (simp <;> omega) | (simp <;> (have s := hw1.size; omega)) | (have s0 := hw1.size; (try simp at s0); (try simp); omega))); clear hw1)
  have HU := Lib.hid (HU0.out.later HW1.out)
  have HP1 := Lib.hid (HP0.out.later HW1.out)
  have hub1 : ub < w1.heap.size := Nat.lt_of_lt_of_le hub HW1.out.size
  have hpb1 : pb < w1.heap.size := Nat.lt_of_lt_of_le hpb HW1.out.size
  clear hub hpb H HP HU0 HP0
  go_loopw [9] (fun q wr => ∃ k : Nat, k ≤ M.length ∧ q = .int .i64 k ∧ Hid (∀ (i : Nat) (x : Q), i < k → U[i]? = some x → SmU x) ∧ Hid (Below w1.heap.size w1 wr)) (fun q _ => M.length - (intOf q).toNat)
  case atStart => exact ⟨0, by omega, rfl, Lib.hid (fun i x hi => by omega), Lib.hid (Below.refl _ _)⟩
  case round =>
    obtain ⟨k, hk, rfl, hsm, hb⟩ := hrel
    by_cases hlt : k < M.length
    · have i1 : (k : Int) < (M.length : Int) := by omega
      have hku : k < U.length := by have := HLU.out; omega
      have eu : U[k]? = some U[k] := List.getElem?_eq_getElem hku
      obtain ⟨l0, l1, l2, l3, l4⟩ := HU.out.later hb.out k _ eu
      have hlw : ub < wr.heap.size := Nat.lt_of_lt_of_le hub1 hb.out.size
      have hbs := hb.out.size
      by_cases hV : V U[k]
      · have cv := fun W : World => refValidate_any U[k] W 0 (.inl ⟨hV, rfl⟩)
        by_cases h2 : U[k].n ≤ 2
        · have t2 : ¬ U[k].n > 2 := by omega
          have hsm' := Lib.hid (show ∀ (i : Nat) (x : Q), i < k + 1 → U[i]? = some x → SmU x from fun i x hi h => by
            by_cases h1 : i < k
            · exact hsm.out i x h1 h
            · obtain rfl : i = k := by omega
              rw [eu] at h
              cases h
              exact ⟨hV, h2⟩)
          clear hV h2 eu hsm
          generalize U[k] = u at *
          go_wp2_with ((with_reducible refine (cv _).mono ?_); clear cv; rintro e w2 ⟨rfl, hw2⟩; have hc2 := Tail.cells hw2)
          exact ⟨⟨k + 1, by omega, by go_num, hsm', Lib.hid (hb.out.trans (hw2.mono hb.out.size))⟩, by simp [intOf]; omega⟩
        · have t2 : U[k].n > 2 := by omega
          have HNO := Lib.hid (show ¬ AllU U from fun h => h2 (h k _ eu).2)
          clear hV h2 eu hsm
          generalize U[k] = u at *
          go_wp2_with ((with_reducible refine (cv _).mono ?_); clear cv; rintro e w2 ⟨rfl, hw2⟩; have hc2 := Tail.cells hw2)
          all_goals
            go_ret2
            exact ⟨.inr ⟨HNO.out, rfl⟩, HW1.out.trans ((hb.out.trans (hw2.mono hb.out.size)).mono HW1.out.size)⟩
      · have cv := fun W : World => refValidate_any U[k] W 1 (.inr ⟨hV, rfl⟩)
        have HNO := Lib.hid (show ¬ AllU U from fun h => hV (h k _ eu).1)
        clear hV eu hsm
        generalize U[k] = u at *
        go_wp2_with ((with_reducible refine (cv _).mono ?_); clear cv; rintro e w2 ⟨rfl, hw2⟩; have hc2 := Tail.cells hw2)
        all_goals
          go_ret2
          exact ⟨.inr ⟨HNO.out, rfl⟩, HW1.out.trans ((hb.out.trans (hw2.mono hb.out.size)).mono HW1.out.size)⟩
    · obtain rfl : k = M.length := by omega
      have HALL := Lib.hid (show AllU U from fun i x h => hsm.out i x (by have := (List.getElem?_eq_some_iff.1 h).1; have := HLU.out; omega) h)
      have HB1 := Lib.hid hb.out
      clear hsm hb
      go_wp2
      have hbs1 := HB1.out.size
      clear hk
      go_loopw [10, 11] (fun f q wt => ∃ (i : Nat) (v : Value), i ≤ M.length ∧ q = .int .i64 i ∧ v = f ∧ Hid (wt.ownsRow w1.heap.size 64 4 v i ((fl ((tuL U M).take i)).map vi)) ∧ Hid (Below w1.heap.size w1 wt)) (fun _ q _ => M.length - (intOf q).toNat)
      case atStart => exact ⟨0, _, by omega, rfl, rfl, Lib.hid (World.ownsRow_nil _ _ _ _), HB1⟩
      case round =>
        obtain ⟨i, v, hin, rfl, rfl, hown, hb⟩ := hrel
        have hbs := hb.out.size
        by_cases hlt : i < M.length
        · have i1 : (i : Int) < (M.length : Int) := by omega
          have hku : i < U.length := by have := HLU.out; omega
          have eu : U[i]? = some U[i] := List.getElem?_eq_getElem hku
          have ex : M[i]? = some M[i] := List.getElem?_eq_getElem hlt
          obtain ⟨l0, l1, l2, l3, l4⟩ := HU.out.later hb.out i _ eu
          obtain ⟨y0, y1, y2, y3⟩ := four_at (HP1.out.later hb.out) ex
          have HSN := Lib.hid (fl_take_snoc (tuL_at eu ex))
          have n12 := (HALL.out i _ eu).n12
          generalize U[i] = u at *
          generalize M[i] = x at *
          have ct := fun W : World => refTwice7_any u W n12
          have cm := fun W : World => refTimes7_any (tw u).w x W
          generalize (mulS (tw u).w x).w = V at *
          generalize (tw u).w = tq at *
          have lx : ub < wr.heap.size := by omega
          have ly : pb < wr.heap.size := by omega
          clear eu ex n12
          go_wp2
          apply Made.region_one 11 (.cells (s4 V).toArray 64) (fun g => .slice (some ⟨g, 0, none⟩) 1 1) (some 60) (by kernel_rfl) (by kernel_rfl) (by kernel_rfl)
          · intro B hB
            have kc := @Tail.cell_re
            have hcB := Tail.cells hB
            have zB0 := Nat.lt_of_lt_of_le lx hB.size
            have zB1 := Nat.lt_of_lt_of_le ly hB.size
            simp only [List.take_succ_cons, List.take_zero]
            repeat (go_big_quiet_step (first | (with_reducible exact Calls.regrown_of (ct _)) | (with_reducible exact Calls.regrown_of (cm _))))
            exact wpQuiet_nil rfl
          · refine ⟨_, rfl, rfl, fun W => ⟨rfl, ?_⟩⟩
            simp [execOp, go_sem, s4, vi]
          intro g w2 hg hw2 hx2
          show wpList _ _ _ (List.drop 12 _) _ _
          simp only [List.drop_succ_cons, List.drop_zero]
          have z0 := Wide.cell_at hx2 0 _ rfl
          have z1 := Wide.cell_at hx2 1 _ rfl
          have z2 := Wide.cell_at hx2 2 _ rfl
          have z3 := Wide.cell_at hx2 3 _ rfl
          have HO2 := Lib.hid (owned_later hown.out hw2)
          have B2 := hb.out.trans (hw2.mono hb.out.size)
          have hb2 := B2.size
          clear l0 l1 l2 l3 l4 y0 y1 y2 y3 hown hb hw2
          go_wp2_with (at_builtin; refine wpList_append_own _ rfl (.tmp 49) (.tmp 60) 26 rfl w1.heap.size 64 i0 _ 4 32 Try.underlying26 hi hz0 hz1 hz2 rfl (by decide) v i ((fl ((tuL U M).take i)).map vi) rfl HO2.out ⟨g, 0, none⟩ 1 1 (s4 V) rfl rfl (four_news z0 z1 z2 z3) (four_ones _) (by unfold maxLen; omega) (by omega) (by omega) ?_; intro v' w4 hown4 hgrow4 _)
          have hfr := owned_from HO2.out
          have b4 := B2.grown hgrow4 (by omega) (fun j hj => by have := hfr j hj; omega)
          rw [← HSN.out] at hown4
          have HO4 := Lib.hid hown4
          have HB4 := Lib.hid b4
          clear hown4 hgrow4 b4 B2
          go_wp2
          exact ⟨⟨i + 1, _, by omega, by go_num, rfl, HO4, HB4⟩, by simp [intOf]; omega⟩
        · obtain rfl : i = M.length := by omega
          have hown2 := hown.out
          rw [show (tuL U M).take M.length = tuL U M by conv => lhs; rw [← tuL_len U M, List.take_length]] at hown2
          obtain ⟨gv, cv, rfl, hgv, hli⟩ := owned_liesS hown2 HPO.out (tuL_len U M)
          have HLI := Lib.hid hli
          clear hown hown2 hli
          go_wp2
          go_ret2
          have hsz := HW1.out.size
          exact ⟨.inl ⟨HALL.out, gv, cv, rfl, HLI.out, by omega⟩, HW1.out.trans (hb.out.mono hsz)⟩
end Go.Proofs.Ytmnlfojcofdaeaa
