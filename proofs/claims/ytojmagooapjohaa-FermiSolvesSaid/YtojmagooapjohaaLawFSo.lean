/- FermiSolves: the solution that is found is accepted, and the errors are the document's, for all fields, masses and sources.
Conditions: none. -/
import Derived.Test.YtojmagooapjohaaSane7
import Derived.Test.YtojmagooapjohaaSrcC
import Derived.Test.YtojmagooapjohaaLngC
import Derived.Test.YtojmagooapjohaaOpenS
import Derived.Test.YtojmagooapjohaaJFacts
namespace Go.Proofs.Ytojmagooapjohaa
set_option linter.unusedVariables false
set_option linter.unusedSimpArgs false
set_option maxRecDepth 1000000
open Go.ChangeShapes Go.WideShapes Go.ChangeAt Go.RowKit
open Um Tm Fm

set_option maxHeartbeats 3200000 in
theorem fSo_long (a b c ma : Int) (ao po : Option Addr) (L : List Q) (M : List Sp) (cap pc : Nat) (w : World) (hn : 100 < M.length ∨ 200 < L.length) : Calls Try.prog 6 #[.agg #[.int .i64 a, .int .i64 b, .int .i64 c, .slice ao L.length cap], .int .i64 ma, .slice po M.length pc] w fun e w' => e = .returned (.bool true) ∧ Below w.heap.size w w' := by
  have sn := sane7_any
  have lg := fun (W : World) (sb : Nat) (h1 : W.cell? ⟨sb, 0, none⟩ = some (.slice po M.length pc)) => long71_any a b c ao po cap pc L.length M.length sb true W h1 (.inr ⟨hn, rfl⟩)
  go_enter Try.func6, Try.ntmps6
  go_wp2_with (first | ((with_reducible refine (lg _ _ (by simp [go_sem])).mono ?_); clear lg; rintro e w1 ⟨rfl, hw1⟩) | ((with_reducible refine (sn _).mono ?_); rintro e w2 ⟨rfl, hw2⟩))
  go_ret
  exact ⟨rfl, by repeat (first | (with_reducible exact Below.refl _ _) | (with_reducible refine Below.setCell ?_ ?_ _) | (with_reducible refine Below.drew ?_) | (with_reducible refine Below.alloc ?_ ?_ _) | (with_reducible refine Below.trans ?_ (Below.mono hw2 ?_)) | (with_reducible refine Below.trans ?_ (Below.mono hw1 ?_)) | (with_reducible exact hw2.size) | (with_reducible exact hw1.size) | omega | (simp <;> omega) | (simp <;> (have s := hw2.size; omega)) | (simp <;> (have s := hw1.size; omega)) | (have s0 := hw2.size; (try simp at s0); have s1 := hw1.size; (try simp at s1); (try simp); omega))⟩
set_option maxHeartbeats 3200000 in
theorem fSo_err (a b c ma r : Int) (ao po : Option Addr) (L : List Q) (M : List Sp) (cap pc : Nat) (w : World) (hn : ¬ (100 < M.length ∨ 200 < L.length)) (hm : LiesO w ao L) (hp : LiesOI w po (fl M)) (h0 : r ≠ 0)
    (c1 : ∀ (W : World), LiesO W ao L → LiesOI W po (fl M) → Calls Try.prog 24 #[.agg #[.int .i64 a, .int .i64 b, .int .i64 c, .slice ao L.length cap], .int .i64 ma, .slice po M.length pc] W fun e w' => e = .returned (.tuple #[.slice none 0 0, .int .i64 r]) ∧ Below W.heap.size W w')
    (c2 : ∀ (W : World), LiesO W ao L → LiesOI W po (fl M) → Calls Try.prog 25 #[.agg #[.int .i64 a, .int .i64 b, .int .i64 c, .slice ao L.length cap], .int .i64 ma, .slice po M.length pc] W fun e w' => e = .returned (.int .i64 r) ∧ Below W.heap.size W w') :
    Calls Try.prog 6 #[.agg #[.int .i64 a, .int .i64 b, .int .i64 c, .slice ao L.length cap], .int .i64 ma, .slice po M.length pc] w fun e w' => e = .returned (.bool true) ∧ Below w.heap.size w w' := by
  have sn := sane7_any
  have lg := fun (W : World) (sb : Nat) (h1 : W.cell? ⟨sb, 0, none⟩ = some (.slice po M.length pc)) => long71_any a b c ao po cap pc L.length M.length sb false W h1 (.inl ⟨by omega, by omega, rfl⟩)
  have H := Lib.hid hm
  have HP := Lib.hid hp
  clear hm hp hn
  have t0 : (r != 0) = true := by simpa using h0
  have t1 : (r == 0) = false := by simpa using h0
  have t2 : (r != r) = false := by simp
  clear h0
  go_enter Try.func6, Try.ntmps6
  go_wp2_with ((with_reducible refine (lg _ _ (by simp [go_sem])).mono ?_); clear lg; rintro e w1 ⟨rfl, hw1⟩; have hc1 := Tail.cells hw1; have zw10 := Nat.lt_of_lt_of_le (n := w.heap.size) (by simp <;> omega) hw1.size)
  go_wp2_with ((with_reducible refine (c1 _ (H.out.later (by repeat (first | (with_reducible exact Below.refl _ _) | (with_reducible refine Below.setCell ?_ ?_ _) | (with_reducible refine Below.drew ?_) | (with_reducible refine Below.alloc ?_ ?_ _) | (with_reducible refine Below.trans ?_ (Below.mono hw1 ?_)) | (with_reducible exact hw1.size) | omega | (simp <;> omega) | (simp <;> (have s := hw1.size; omega)) | (have s0 := hw1.size; (try simp at s0); (try simp); omega)))) (HP.out.later (by repeat (first | (with_reducible exact Below.refl _ _) | (with_reducible refine Below.setCell ?_ ?_ _) | (with_reducible refine Below.drew ?_) | (with_reducible refine Below.alloc ?_ ?_ _) | (with_reducible refine Below.trans ?_ (Below.mono hw1 ?_)) | (with_reducible exact hw1.size) | omega | (simp <;> omega) | (simp <;> (have s := hw1.size; omega)) | (have s0 := hw1.size; (try simp at s0); (try simp); omega))))).mono ?_); clear c1; rintro e w2 ⟨rfl, hw2⟩; have hc2 := Tail.cells hw2; have s2 := hw2.size; (try simp at s2); have zw20 : w.heap.size < w2.heap.size := (by omega); clear s2)
  go_wp2_with ((with_reducible refine (c2 _ (H.out.later (by repeat (first | (with_reducible exact Below.refl _ _) | (with_reducible refine Below.setCell ?_ ?_ _) | (with_reducible refine Below.drew ?_) | (with_reducible refine Below.alloc ?_ ?_ _) | (with_reducible refine Below.trans ?_ (Below.mono hw2 ?_)) | (with_reducible refine Below.trans ?_ (Below.mono hw1 ?_)) | (with_reducible exact hw2.size) | (with_reducible exact hw1.size) | omega | (simp <;> omega) | (simp <;> (have s := hw2.size; omega)) | (simp <;> (have s := hw1.size; omega)) | (have s0 := hw2.size; (try simp at s0); have s1 := hw1.size; (try simp at s1); (try simp); omega)))) (HP.out.later (by repeat (first | (with_reducible exact Below.refl _ _) | (with_reducible refine Below.setCell ?_ ?_ _) | (with_reducible refine Below.drew ?_) | (with_reducible refine Below.alloc ?_ ?_ _) | (with_reducible refine Below.trans ?_ (Below.mono hw2 ?_)) | (with_reducible refine Below.trans ?_ (Below.mono hw1 ?_)) | (with_reducible exact hw2.size) | (with_reducible exact hw1.size) | omega | (simp <;> omega) | (simp <;> (have s := hw2.size; omega)) | (simp <;> (have s := hw1.size; omega)) | (have s0 := hw2.size; (try simp at s0); have s1 := hw1.size; (try simp at s1); (try simp); omega))))).mono ?_); clear c2; rintro e w3 ⟨rfl, hw3⟩; have hc3 := Tail.cells hw3; have s3 := hw3.size; (try simp at s3); have zw30 : w.heap.size < w3.heap.size := (by omega); clear s3)
  go_wp2_with ((with_reducible refine (sn _).mono ?_); rintro e w4 ⟨rfl, hw4⟩; have hc4 := Tail.cells hw4; have s4 := hw4.size; (try simp at s4); have zw40 : w.heap.size < w4.heap.size := (by omega); clear s4)
  go_ret
  exact ⟨rfl, by repeat (first | (with_reducible exact Below.refl _ _) | (with_reducible refine Below.setCell ?_ ?_ _) | (with_reducible refine Below.drew ?_) | (with_reducible refine Below.alloc ?_ ?_ _) | (with_reducible refine Below.trans ?_ (Below.mono hw4 ?_)) | (with_reducible refine Below.trans ?_ (Below.mono hw3 ?_)) | (with_reducible refine Below.trans ?_ (Below.mono hw2 ?_)) | (with_reducible refine Below.trans ?_ (Below.mono hw1 ?_)) | (with_reducible exact hw4.size) | (with_reducible exact hw3.size) | (with_reducible exact hw2.size) | (with_reducible exact hw1.size) | omega | (simp <;> omega) | (simp <;> (have s := hw4.size; omega)) | (simp <;> (have s := hw3.size; omega)) | (simp <;> (have s := hw2.size; omega)) | (simp <;> (have s := hw1.size; omega)) | (have s0 := hw4.size; (try simp at s0); have s1 := hw3.size; (try simp at s1); have s2 := hw2.size; (try simp at s2); have s3 := hw1.size; (try simp at s3); (try simp); omega))⟩
set_option maxHeartbeats 3200000 in
theorem fSo_ok (a b c ma : Int) (ao po : Option Addr) (L : List Q) (M : List Sp) (cap pc n : Nat) (w : World) (hn : ¬ (100 < M.length ∨ 200 < L.length)) (hm : LiesO w ao L) (hp : LiesOI w po (fl M))
    (c1 : ∀ (W : World), LiesO W ao L → LiesOI W po (fl M) → Calls Try.prog 24 #[.agg #[.int .i64 a, .int .i64 b, .int .i64 c, .slice ao L.length cap], .int .i64 ma, .slice po M.length pc] W fun e w' => (∃ (g k : Nat) (V : List Sp), e = .returned (.tuple #[.slice (some ⟨g, 0, none⟩) n k, .int .i64 0]) ∧ LiesI w' g 0 (fl V) ∧ Hid (∀ (W' : World) (k' : Nat), LiesO W' ao L → LiesOI W' po (fl M) → LiesI W' g 0 (fl V) → Calls Try.prog 26 #[.agg #[.int .i64 a, .int .i64 b, .int .i64 c, .slice ao L.length cap], .int .i64 ma, .slice (some ⟨g, 0, none⟩) n k', .slice po M.length pc] W' fun e w' => e = .returned (.int .i64 0) ∧ Below W'.heap.size W' w')) ∧ Below W.heap.size W w')
    (c2 : ∀ (W : World), LiesO W ao L → LiesOI W po (fl M) → Calls Try.prog 25 #[.agg #[.int .i64 a, .int .i64 b, .int .i64 c, .slice ao L.length cap], .int .i64 ma, .slice po M.length pc] W fun e w' => e = .returned (.int .i64 0) ∧ Below W.heap.size W w')
    (hu : True) :
    Calls Try.prog 6 #[.agg #[.int .i64 a, .int .i64 b, .int .i64 c, .slice ao L.length cap], .int .i64 ma, .slice po M.length pc] w fun e w' => e = .returned (.bool true) ∧ Below w.heap.size w w' := by
  have sn := sane7_any
  have lg := fun (W : World) (sb : Nat) (h1 : W.cell? ⟨sb, 0, none⟩ = some (.slice po M.length pc)) => long71_any a b c ao po cap pc L.length M.length sb false W h1 (.inl ⟨by omega, by omega, rfl⟩)
  have H := Lib.hid hm
  have HP := Lib.hid hp
  clear hm hp hn
  go_enter Try.func6, Try.ntmps6
  go_wp2_with ((with_reducible refine (lg _ _ (by simp [go_sem])).mono ?_); clear lg; rintro e w1 ⟨rfl, hw1⟩; have hc1 := Tail.cells hw1; have zw10 := Nat.lt_of_lt_of_le (n := w.heap.size) (by simp <;> omega) hw1.size)
  go_wp2_with ((with_reducible refine (c1 _ (H.out.later (by repeat (first | (with_reducible exact Below.refl _ _) | (with_reducible refine Below.setCell ?_ ?_ _) | (with_reducible refine Below.drew ?_) | (with_reducible refine Below.alloc ?_ ?_ _) | (with_reducible refine Below.trans ?_ (Below.mono hw1 ?_)) | (with_reducible exact hw1.size) | omega | (simp <;> omega) | (simp <;> (have s := hw1.size; omega)) | (have s0 := hw1.size; (try simp at s0); (try simp); omega)))) (HP.out.later (by repeat (first | (with_reducible exact Below.refl _ _) | (with_reducible refine Below.setCell ?_ ?_ _) | (with_reducible refine Below.drew ?_) | (with_reducible refine Below.alloc ?_ ?_ _) | (with_reducible refine Below.trans ?_ (Below.mono hw1 ?_)) | (with_reducible exact hw1.size) | omega | (simp <;> omega) | (simp <;> (have s := hw1.size; omega)) | (have s0 := hw1.size; (try simp at s0); (try simp); omega))))).mono ?_); clear c1; rintro e w2 ⟨⟨g2, k2, V, rfl, hb2, hC⟩, hw2⟩; have hc2 := Tail.cells hw2; have s2 := hw2.size; (try simp at s2); have zw20 : w.heap.size < w2.heap.size := (by omega); clear s2; have B2 := Lib.hid hb2; clear hb2)
  go_wp2_with ((with_reducible refine (c2 _ (H.out.later (by repeat (first | (with_reducible exact Below.refl _ _) | (with_reducible refine Below.setCell ?_ ?_ _) | (with_reducible refine Below.drew ?_) | (with_reducible refine Below.alloc ?_ ?_ _) | (with_reducible refine Below.trans ?_ (Below.mono hw2 ?_)) | (with_reducible refine Below.trans ?_ (Below.mono hw1 ?_)) | (with_reducible exact hw2.size) | (with_reducible exact hw1.size) | omega | (simp <;> omega) | (simp <;> (have s := hw2.size; omega)) | (simp <;> (have s := hw1.size; omega)) | (have s0 := hw2.size; (try simp at s0); have s1 := hw1.size; (try simp at s1); (try simp); omega)))) (HP.out.later (by repeat (first | (with_reducible exact Below.refl _ _) | (with_reducible refine Below.setCell ?_ ?_ _) | (with_reducible refine Below.drew ?_) | (with_reducible refine Below.alloc ?_ ?_ _) | (with_reducible refine Below.trans ?_ (Below.mono hw2 ?_)) | (with_reducible refine Below.trans ?_ (Below.mono hw1 ?_)) | (with_reducible exact hw2.size) | (with_reducible exact hw1.size) | omega | (simp <;> omega) | (simp <;> (have s := hw2.size; omega)) | (simp <;> (have s := hw1.size; omega)) | (have s0 := hw2.size; (try simp at s0); have s1 := hw1.size; (try simp at s1); (try simp); omega))))).mono ?_); clear c2; rintro e w3 ⟨rfl, hw3⟩; have hc3 := Tail.cells hw3; have s3 := hw3.size; (try simp at s3); have zw30 : w.heap.size < w3.heap.size := (by omega); clear s3)
  go_wp2_with ((with_reducible refine (hC.out _ _ (H.out.later (by repeat (first | (with_reducible exact Below.refl _ _) | (with_reducible refine Below.setCell ?_ ?_ _) | (with_reducible refine Below.drew ?_) | (with_reducible refine Below.alloc ?_ ?_ _) | (with_reducible refine Below.trans ?_ (Below.mono hw3 ?_)) | (with_reducible refine Below.trans ?_ (Below.mono hw2 ?_)) | (with_reducible refine Below.trans ?_ (Below.mono hw1 ?_)) | (with_reducible exact hw3.size) | (with_reducible exact hw2.size) | (with_reducible exact hw1.size) | omega | (simp <;> omega) | (simp <;> (have s := hw3.size; omega)) | (simp <;> (have s := hw2.size; omega)) | (simp <;> (have s := hw1.size; omega)) | (have s0 := hw3.size; (try simp at s0); have s1 := hw2.size; (try simp at s1); have s2 := hw1.size; (try simp at s2); (try simp); omega)))) (HP.out.later (by repeat (first | (with_reducible exact Below.refl _ _) | (with_reducible refine Below.setCell ?_ ?_ _) | (with_reducible refine Below.drew ?_) | (with_reducible refine Below.alloc ?_ ?_ _) | (with_reducible refine Below.trans ?_ (Below.mono hw3 ?_)) | (with_reducible refine Below.trans ?_ (Below.mono hw2 ?_)) | (with_reducible refine Below.trans ?_ (Below.mono hw1 ?_)) | (with_reducible exact hw3.size) | (with_reducible exact hw2.size) | (with_reducible exact hw1.size) | omega | (simp <;> omega) | (simp <;> (have s := hw3.size; omega)) | (simp <;> (have s := hw2.size; omega)) | (simp <;> (have s := hw1.size; omega)) | (have s0 := hw3.size; (try simp at s0); have s1 := hw2.size; (try simp at s1); have s2 := hw1.size; (try simp at s2); (try simp); omega)))) (B2.out.later (by repeat (first | (with_reducible exact Below.refl _ _) | (with_reducible refine Below.setCell ?_ ?_ _) | (with_reducible refine Below.drew ?_) | (with_reducible refine Below.alloc ?_ ?_ _) | (with_reducible refine Below.trans ?_ (Below.mono hw3 ?_)) | (with_reducible exact hw3.size) | omega | (simp <;> omega) | (simp <;> (have s := hw3.size; omega)) | (have s0 := hw3.size; (try simp at s0); (try simp); omega))))).mono ?_); clear hC; rintro e w4 ⟨rfl, hw4⟩; have hc4 := Tail.cells hw4; have s4 := hw4.size; (try simp at s4); have zw40 : w.heap.size < w4.heap.size := (by omega); clear s4)
  go_wp2_with ((with_reducible refine (sn _).mono ?_); rintro e w5 ⟨rfl, hw5⟩; have hc5 := Tail.cells hw5; have s5 := hw5.size; (try simp at s5); have zw50 : w.heap.size < w5.heap.size := (by omega); clear s5)
  go_ret
  exact ⟨rfl, by repeat (first | (with_reducible exact Below.refl _ _) | (with_reducible refine Below.setCell ?_ ?_ _) | (with_reducible refine Below.drew ?_) | (with_reducible refine Below.alloc ?_ ?_ _) | (with_reducible refine Below.trans ?_ (Below.mono hw5 ?_)) | (with_reducible refine Below.trans ?_ (Below.mono hw4 ?_)) | (with_reducible refine Below.trans ?_ (Below.mono hw3 ?_)) | (with_reducible refine Below.trans ?_ (Below.mono hw2 ?_)) | (with_reducible refine Below.trans ?_ (Below.mono hw1 ?_)) | (with_reducible exact hw5.size) | (with_reducible exact hw4.size) | (with_reducible exact hw3.size) | (with_reducible exact hw2.size) | (with_reducible exact hw1.size) | omega | (simp <;> omega) | (simp <;> (have s := hw5.size; omega)) | (simp <;> (have s := hw4.size; omega)) | (simp <;> (have s := hw3.size; omega)) | (simp <;> (have s := hw2.size; omega)) | (simp <;> (have s := hw1.size; omega)) | (have s0 := hw5.size; (try simp at s0); have s1 := hw4.size; (try simp at s1); have s2 := hw3.size; (try simp at s2); have s3 := hw2.size; (try simp at s3); have s4 := hw1.size; (try simp at s4); (try simp); omega))⟩
theorem fermiSolves_walk (a b c : Int) (ao : Option Addr) (L : List Q) (cap : Nat) (ma : Int) (po : Option Addr) (M : List Sp) (pc : Nat) (w : World) (_ : L.length ≤ maxLen) (hm : LiesO w ao L) (_ : M.length ≤ pc) (_ : pc ≤ maxLen) (hp : LiesOI w po (fl M)) (_ : po = none → pc = 0) : Calls Try.prog 6 #[.agg #[.int .i64 a, .int .i64 b, .int .i64 c, .slice ao L.length cap], .int .i64 ma, .slice po M.length pc] w fun e w' => e = .returned (.bool true) ∧ Below w.heap.size w w' := by
  by_cases hn : 100 < M.length ∨ 200 < L.length
  · exact fSo_long a b c ma ao po L M cap pc w hn
  obtain ⟨ns, r0, hr⟩ := nums7_ex a b c L
  obtain ⟨r, hv⟩ := soR_ex L.length M r0 ma
  have d2 := fun (W : World) (k1 : LiesO W ao L) (k2 : LiesOI W po (fl M)) => solveError_any a b c r0 ma r ao po cap pc L ns M W k1 k2 hr hv (by omega) (by omega)
  obtain ⟨r1, h1, ⟨h2, rfl⟩ | ⟨h2, h3⟩⟩ := hv
  · exact fSo_err a b c ma r ao po L M cap pc w hn hm hp h2 (fun W k1 k2 => solve_e1 a b c r0 ma r ao po cap pc L ns M W k1 k2 hr h1 h2 (by omega) (by omega)) d2
  · subst h2
    obtain rfl := (ms1_ok h1).1
    obtain ⟨n, hF⟩ := fld7 hr
    rcases h3 with ⟨h3, rfl⟩ | ⟨h3, rfl⟩
    · have hll := hF.l
      have hMl := (ms1_ok h1).2.1
      refine fSo_ok a b c ma ao po L M cap pc n w hn hm hp (fun W k1 k2 => (solve_ok a b c ma ao po cap pc n L ns M W k1 k2 hr h1 hF (by omega) (by omega) h3 (nums_one4 hr)).mono ?_) d2 trivial
      rintro e w' ⟨⟨g, k, X, e1, e2, -, hI, hc⟩, hw⟩
      obtain ⟨g1, g2, g3⟩ := sol_good hr hF h1 h3 hI hc
      refine ⟨⟨g, k, rdL n X, e1, e2, Lib.hid (fun W' k' l1 l2 l3 => ?_)⟩, hw⟩
      have hl := rdL_len n X
      have := refCheck_ok a b c ma 0 ao (some ⟨g, 0, none⟩) po cap k' pc n L ns (rdL n X) M W' l1 (.inr ⟨g, 0, rfl, l3⟩) l2 hr g2 hF (by have := hF.pos; omega) (by omega) g3
      rw [hl] at this
      exact this
    · exact fSo_err a b c ma 1 ao po L M cap pc w hn hm hp (by decide) (fun W k1 k2 => solve_e2 a b c ma ao po cap pc n L ns M W k1 k2 hr h1 hF (by omega) (by omega) h3) d2

/-! ### The statement of the law FermiSolves, out of its walk -/
set_option maxRecDepth 100000 in
theorem fermiSolves_lifted (os : Os) (started : os.Started) (H : Type) (enc : TypeId × Value → H) :
    ReturnsInHanded {} Try.checked os 6 .any (Rows.fermiSolvesSpec.pre6 enc Try.prog Try.f6 Rows.fermiSolvesRow.domain false) (Rows.fermiSolvesSpec.post enc Try.prog Try.f6 false true false false) := by
  refine returnsInHanded_of_change (C := Try.checked) own started (by kernel_rfl) Try.func6
    (ChangeSpec.witness6 (enc := enc) (C := Try.checked) false ⟨#[], #[.agg #[.int .i64 0, .int .i64 0, .int .i64 0, .slice none 0 0], .int .i64 0, .slice none 0 0], []⟩ 8 (by kernel_rfl) (by kernel_rfl) (by kernel_rfl) (by kernel_rfl)) ?_
  intro W base args ds gs before hval0 hW hcnd _
  have hval : ∀ (j : Nat) t v, Try.f6.params[j]? = some t → args[j]? = some v → Value.okWide Try.prog W .any base t v := hval0
  have hW' := hW
  obtain ⟨p, q, hA0, hV, rfl, hfz, hnd⟩ := hW
  have hA : DataW.TrodAll enc Try.prog W 0 (fun _ => true) true Try.f6.params.toList args.toList ds p := hA0
  rw [Try.params6] at hA hval
  obtain ⟨v0, vs0, d0, ds0, p0, q0, hargs, rfl, rfl, h0, r0⟩ := trodAll_cons hA
  obtain ⟨v1, vs1, d1, ds1, p1, q1, rfl, rfl, rfl, h1, r1⟩ := trodAll_cons r0
  obtain ⟨v2, vs2, d2, ds2, p2, q2, rfl, rfl, rfl, h2, r2⟩ := trodAll_cons r1
  obtain ⟨rfl, rfl, rfl⟩ := trodAll_nil r2
  obtain rfl : args = #[v0, v1, v2] := by cases args; simp_all
  obtain ⟨rfl, rfl⟩ := trodVars_none hV
  have k0 := h0
  have lt0 : ∀ x ∈ p0, x.block < W.heap.size := by obtain ⟨m, hm⟩ := k0; exact DataW.trod_lt m _ _ _ hm
  obtain ⟨x0, y0, z0, ao0, L0, cap0, rfl, hl0, hm0⟩ := open_field (hval 0 25 v0 rfl rfl) h0
  have k1 := h1
  have lt1 : ∀ x ∈ p1, x.block < W.heap.size := by obtain ⟨m, hm⟩ := k1; exact DataW.trod_lt m _ _ _ hm
  obtain ⟨x1, e1, -, -, -⟩ := open_int Try.underlying3 (hval 1 3 v1 rfl rfl) h1
  subst e1
  have k2 := h2
  have lt2 : ∀ x ∈ p2, x.block < W.heap.size := by obtain ⟨m, hm⟩ := k2; exact DataW.trod_lt m _ _ _ hm
  obtain ⟨po2, M2, pc2, rfl, hkc2, hkl2, hkm2, hkz2⟩ := open_spins (hval 2 51 v2 rfl rfl) h2
  clear hA0 hval0
  refine (fermiSolves_walk x0 y0 z0 ao0 L0 cap0 x1 po2 M2 pc2 W hl0 hm0 hkc2 hkl2 hkm2 hkz2).mono fun e W' ⟨he, bel⟩ => ?_
  subst he
  exact ⟨_, rfl, _, _, _, [], _, [], hW', trodAll_mk1 (shut_bool Try.underlying4 _), (trodAll_cons_mk (Below.trod laidOut (by kernel_rfl) (of_decide_eq_true (by kernel_rfl)) k0 bel lt0) (trodAll_cons_mk (Below.trod laidOut (by kernel_rfl) (of_decide_eq_true (by kernel_rfl)) k1 bel lt1) (trodAll_cons_mk (Below.trod laidOut (by kernel_rfl) (of_decide_eq_true (by kernel_rfl)) k2 bel lt2) trodAll_mk0))), rfl, bel.frame _, fun h => by cases h⟩

theorem fermiSolves_jf9 : (Rows.fermiSolvesRow.inPlace == Try.prog.inPlace 6) = true := by kernel_rfl
theorem fermiSolves_jf10 : (Rows.fermiSolvesRow.unfollowed == Try.prog.unfollowed 6) = true := by kernel_rfl
theorem fermiSolves_jf11 : (Rows.fermiSolvesRow.recurses == Try.prog.recurses 6) = true := by kernel_rfl
theorem fermiSolves_jf12 : (Rows.fermiSolvesRow.named == Try.prog.varsNamed 6) = true := by kernel_rfl
theorem fermiSolves_facts : joinedFacts Try.prog 6 Try.f6 Rows.fermiSolvesSpec Rows.fermiSolvesRow = true := by
  unfold joinedFacts
  exact (band (band (band (band (band (band (band (band (band (band (band (band (band (band (band (band (band (band (band (band (band (band (band (band (band (band (band (band (band (band (band (by kernel_rfl) jf1) jf2) (by kernel_rfl)) (by kernel_rfl)) (by kernel_rfl)) jf6) (by kernel_rfl)) jf8) fermiSolves_jf9) fermiSolves_jf10) fermiSolves_jf11) fermiSolves_jf12) (by kernel_rfl)) (by kernel_rfl)) (by kernel_rfl)) (by kernel_rfl)) (by kernel_rfl)) (by kernel_rfl)) (by kernel_rfl)) (by kernel_rfl)) (by kernel_rfl)) (by kernel_rfl)) (by kernel_rfl)) jf24) jf25) jf26) jf27) (by kernel_rfl)) (by kernel_rfl)) (by kernel_rfl)) (by kernel_rfl))

theorem fermiSolves_over : Rows.fermiSolvesRow.holds Try.pinned (OpenSpec.ofChange Rows.fermiSolvesSpec) :=
  OpenClaim.holds_of_wide 6 Try.f6 rfl rfl rfl rfl rfl rfl rfl ⟨rfl, rfl, rfl, rfl, rfl⟩ rfl rfl rfl rfl rfl (by kernel_rfl) Try.func6 fermiSolves_facts
    (of_decide_eq_true (by kernel_rfl)) (by unfold Func.isWrapper; first | (rw [if_pos (by decide +kernel)]; kernel_rfl) | (rw [if_neg (by decide +kernel)]; exact ⟨rfl, rfl⟩))
    (fun os started H enc _ => fermiSolves_lifted os started H enc)

theorem fermiSolves_holds : Rows.FermiSolvesSaid := fermiSolves_over
#print axioms fermiSolves_holds

end Go.Proofs.Ytojmagooapjohaa
