/- FermiTurns: a vector turned by units is what the document says, for all fields, lists of units and vectors.
Conditions: none. -/
import Derived.Test.YtmnlfojcofdaeaaSane7
import Derived.Test.YtmnlfojcofdaeaaTuC
import Derived.Test.YtmnlfojcofdaeaaLngC
import Derived.Test.YtmnlfojcofdaeaaOpenS
import Derived.Test.YtmnlfojcofdaeaaJFacts
namespace Go.Proofs.Ytmnlfojcofdaeaa
set_option linter.unusedVariables false
set_option linter.unusedSimpArgs false
set_option maxRecDepth 1000000
open Go.ChangeShapes Go.WideShapes Go.ChangeAt Go.RowKit
open Um Tm Fm

set_option maxHeartbeats 3200000 in
theorem fermiTurns_long (a b c : Int) (ao uo po : Option Addr) (L U : List Q) (M : List Sp) (cap uc pc : Nat) (w : World) (hn : 100 < M.length ∨ 200 < L.length) : Calls Try.prog 9 #[.agg #[.int .i64 a, .int .i64 b, .int .i64 c, .slice ao L.length cap], .slice uo U.length uc, .slice po M.length pc] w fun e w' => e = .returned (.bool true) ∧ Below w.heap.size w w' := by
  have sn := sane7_any
  have lg := fun (W : World) (sb : Nat) (h1 : W.cell? ⟨sb, 0, none⟩ = some (.slice po M.length pc)) => long71_any a b c ao po cap pc L.length M.length sb true W h1 (.inr ⟨hn, rfl⟩)
  go_enter Try.func9, Try.ntmps9
  go_wp2_with (first | ((with_reducible refine (lg _ _ (by simp [go_sem])).mono ?_); clear lg; rintro e w1 ⟨rfl, hw1⟩) | ((with_reducible refine (sn _).mono ?_); rintro e w2 ⟨rfl, hw2⟩))
  go_ret
  exact ⟨rfl, by repeat (first | (with_reducible exact Below.refl _ _) | (with_reducible refine Below.setCell ?_ ?_ _) | (with_reducible refine Below.drew ?_) | (with_reducible refine Below.alloc ?_ ?_ _) | (with_reducible refine Below.trans ?_ (Below.mono hw2 ?_)) | (with_reducible refine Below.trans ?_ (Below.mono hw1 ?_)) | (with_reducible exact hw2.size) | (with_reducible exact hw1.size) | omega | (simp <;> omega) | (simp <;> (have s := hw2.size; omega)) | (simp <;> (have s := hw1.size; omega)) | (have s0 := hw2.size; (try simp at s0); have s1 := hw1.size; (try simp at s1); (try simp); omega))⟩
set_option maxHeartbeats 3200000 in
theorem fermiTurns_many (a b c : Int) (ao uo po : Option Addr) (L U : List Q) (M : List Sp) (cap uc pc : Nat) (w : World) (hn : ¬ (100 < M.length ∨ 200 < L.length)) (hu : 100 < U.length) : Calls Try.prog 9 #[.agg #[.int .i64 a, .int .i64 b, .int .i64 c, .slice ao L.length cap], .slice uo U.length uc, .slice po M.length pc] w fun e w' => e = .returned (.bool true) ∧ Below w.heap.size w w' := by
  have sn := sane7_any
  have lg := fun (W : World) (sb : Nat) (h1 : W.cell? ⟨sb, 0, none⟩ = some (.slice po M.length pc)) => long71_any a b c ao po cap pc L.length M.length sb false W h1 (.inl ⟨by omega, by omega, rfl⟩)
  have i1 : (U.length : Int) > 100 := by omega
  go_enter Try.func9, Try.ntmps9
  go_wp2_with (first | ((with_reducible refine (lg _ _ (by simp [go_sem])).mono ?_); clear lg; rintro e w1 ⟨rfl, hw1⟩) | ((with_reducible refine (sn _).mono ?_); rintro e w2 ⟨rfl, hw2⟩))
  go_ret
  exact ⟨rfl, by repeat (first | (with_reducible exact Below.refl _ _) | (with_reducible refine Below.setCell ?_ ?_ _) | (with_reducible refine Below.drew ?_) | (with_reducible refine Below.alloc ?_ ?_ _) | (with_reducible refine Below.trans ?_ (Below.mono hw2 ?_)) | (with_reducible refine Below.trans ?_ (Below.mono hw1 ?_)) | (with_reducible exact hw2.size) | (with_reducible exact hw1.size) | omega | (simp <;> omega) | (simp <;> (have s := hw2.size; omega)) | (simp <;> (have s := hw1.size; omega)) | (have s0 := hw2.size; (try simp at s0); have s1 := hw1.size; (try simp at s1); (try simp); omega))⟩
set_option maxHeartbeats 3200000 in
theorem fermiTurns_nil (a b c r : Int) (ao uo po : Option Addr) (L U : List Q) (M : List Sp) (cap uc pc : Nat) (w : World) (hn : ¬ (100 < M.length ∨ 200 < L.length)) (hu : ¬ 100 < U.length) (hm : LiesO w ao L) (hg : LiesO w uo U) (hp : LiesOI w po (fl M))
    (c1 : ∀ W : World, LiesO W ao L → LiesO W uo U → LiesOI W po (fl M) → Calls Try.prog 37 #[.agg #[.int .i64 a, .int .i64 b, .int .i64 c, .slice ao L.length cap], .slice uo U.length uc, .slice po M.length pc] W fun e w' => e = .returned (.tuple #[.slice none 0 0, .int .i64 r]) ∧ Below W.heap.size W w')
    (c2 : ∀ W : World, LiesO W ao L → LiesO W uo U → LiesOI W po (fl M) → Calls Try.prog 38 #[.agg #[.int .i64 a, .int .i64 b, .int .i64 c, .slice ao L.length cap], .slice uo U.length uc, .slice po M.length pc] W fun e w' => e = .returned (.tuple #[.slice none 0 0, .int .i64 r]) ∧ Below W.heap.size W w') :
    Calls Try.prog 9 #[.agg #[.int .i64 a, .int .i64 b, .int .i64 c, .slice ao L.length cap], .slice uo U.length uc, .slice po M.length pc] w fun e w' => e = .returned (.bool true) ∧ Below w.heap.size w w' := by
  have sn := sane7_any
  have lg := fun (W : World) (sb : Nat) (h1 : W.cell? ⟨sb, 0, none⟩ = some (.slice po M.length pc)) => long71_any a b c ao po cap pc L.length M.length sb false W h1 (.inl ⟨by omega, by omega, rfl⟩)
  have sk := fun W : World => sameS_nil none none 0 0 W
  have H := Lib.hid hm
  have HG := Lib.hid hg
  have HP := Lib.hid hp
  have i1 : ¬ (U.length : Int) > 100 := by omega
  clear hm hg hp hn hu
  go_enter Try.func9, Try.ntmps9
  go_wp2_with (first | ((with_reducible refine (lg _ _ (by simp [go_sem])).mono ?_); clear lg; rintro e w1 ⟨rfl, hw1⟩; have hc1 := Tail.cells hw1; have zw10 := Nat.lt_of_lt_of_le (n := w.heap.size) (by simp <;> omega) hw1.size) | ((with_reducible refine (c1 _ (H.out.later (by repeat (first | (with_reducible exact Below.refl _ _) | (with_reducible refine Below.setCell ?_ ?_ _) | (with_reducible refine Below.drew ?_) | (with_reducible refine Below.alloc ?_ ?_ _) | (with_reducible refine Below.trans ?_ (Below.mono hw1 ?_)) | (with_reducible exact hw1.size) | omega | (simp <;> omega) | (simp <;> (have s := hw1.size; omega)) | (have s0 := hw1.size; (try simp at s0); (try simp); omega)))) (HG.out.later (by repeat (first | (with_reducible exact Below.refl _ _) | (with_reducible refine Below.setCell ?_ ?_ _) | (with_reducible refine Below.drew ?_) | (with_reducible refine Below.alloc ?_ ?_ _) | (with_reducible refine Below.trans ?_ (Below.mono hw1 ?_)) | (with_reducible exact hw1.size) | omega | (simp <;> omega) | (simp <;> (have s := hw1.size; omega)) | (have s0 := hw1.size; (try simp at s0); (try simp); omega)))) (HP.out.later (by repeat (first | (with_reducible exact Below.refl _ _) | (with_reducible refine Below.setCell ?_ ?_ _) | (with_reducible refine Below.drew ?_) | (with_reducible refine Below.alloc ?_ ?_ _) | (with_reducible refine Below.trans ?_ (Below.mono hw1 ?_)) | (with_reducible exact hw1.size) | omega | (simp <;> omega) | (simp <;> (have s := hw1.size; omega)) | (have s0 := hw1.size; (try simp at s0); (try simp); omega))))).mono ?_); clear c1; rintro e w2 ⟨rfl, hw2⟩; have hc2 := Tail.cells hw2; have zw20 := Nat.lt_of_lt_of_le zw10 hw2.size) | ((with_reducible refine (c2 _ (H.out.later (by repeat (first | (with_reducible exact Below.refl _ _) | (with_reducible refine Below.setCell ?_ ?_ _) | (with_reducible refine Below.drew ?_) | (with_reducible refine Below.alloc ?_ ?_ _) | (with_reducible refine Below.trans ?_ (Below.mono hw2 ?_)) | (with_reducible refine Below.trans ?_ (Below.mono hw1 ?_)) | (with_reducible exact hw2.size) | (with_reducible exact hw1.size) | omega | (simp <;> omega) | (simp <;> (have s := hw2.size; omega)) | (simp <;> (have s := hw1.size; omega)) | (have s0 := hw2.size; (try simp at s0); have s1 := hw1.size; (try simp at s1); (try simp); omega)))) (HG.out.later (by repeat (first | (with_reducible exact Below.refl _ _) | (with_reducible refine Below.setCell ?_ ?_ _) | (with_reducible refine Below.drew ?_) | (with_reducible refine Below.alloc ?_ ?_ _) | (with_reducible refine Below.trans ?_ (Below.mono hw2 ?_)) | (with_reducible refine Below.trans ?_ (Below.mono hw1 ?_)) | (with_reducible exact hw2.size) | (with_reducible exact hw1.size) | omega | (simp <;> omega) | (simp <;> (have s := hw2.size; omega)) | (simp <;> (have s := hw1.size; omega)) | (have s0 := hw2.size; (try simp at s0); have s1 := hw1.size; (try simp at s1); (try simp); omega)))) (HP.out.later (by repeat (first | (with_reducible exact Below.refl _ _) | (with_reducible refine Below.setCell ?_ ?_ _) | (with_reducible refine Below.drew ?_) | (with_reducible refine Below.alloc ?_ ?_ _) | (with_reducible refine Below.trans ?_ (Below.mono hw2 ?_)) | (with_reducible refine Below.trans ?_ (Below.mono hw1 ?_)) | (with_reducible exact hw2.size) | (with_reducible exact hw1.size) | omega | (simp <;> omega) | (simp <;> (have s := hw2.size; omega)) | (simp <;> (have s := hw1.size; omega)) | (have s0 := hw2.size; (try simp at s0); have s1 := hw1.size; (try simp at s1); (try simp); omega))))).mono ?_); clear c2; rintro e w3 ⟨rfl, hw3⟩; have hc3 := Tail.cells hw3; have zw30 := Nat.lt_of_lt_of_le zw20 hw3.size))
  go_wp2_with ((with_reducible refine (sk _).mono ?_); clear sk; rintro e w4 ⟨rfl, hw4⟩)
  go_wp2_with ((with_reducible refine (sn _).mono ?_); rintro e w5 ⟨rfl, hw5⟩)
  go_ret
  exact ⟨rfl, by repeat (first | (with_reducible exact Below.refl _ _) | (with_reducible refine Below.setCell ?_ ?_ _) | (with_reducible refine Below.drew ?_) | (with_reducible refine Below.alloc ?_ ?_ _) | (with_reducible refine Below.trans ?_ (Below.mono hw5 ?_)) | (with_reducible refine Below.trans ?_ (Below.mono hw4 ?_)) | (with_reducible refine Below.trans ?_ (Below.mono hw3 ?_)) | (with_reducible refine Below.trans ?_ (Below.mono hw2 ?_)) | (with_reducible refine Below.trans ?_ (Below.mono hw1 ?_)) | (with_reducible exact hw5.size) | (with_reducible exact hw4.size) | (with_reducible exact hw3.size) | (with_reducible exact hw2.size) | (with_reducible exact hw1.size) | omega | (simp <;> omega) | (simp <;> (have s := hw5.size; omega)) | (simp <;> (have s := hw4.size; omega)) | (simp <;> (have s := hw3.size; omega)) | (simp <;> (have s := hw2.size; omega)) | (simp <;> (have s := hw1.size; omega)) | (have s0 := hw5.size; (try simp at s0); have s1 := hw4.size; (try simp at s1); have s2 := hw3.size; (try simp at s2); have s3 := hw2.size; (try simp at s3); have s4 := hw1.size; (try simp at s4); (try simp); omega))⟩
set_option maxHeartbeats 3200000 in
theorem fermiTurns_ok (a b c : Int) (ao uo po : Option Addr) (L U : List Q) (M : List Sp) (cap uc pc : Nat) (w : World) (hn : ¬ (100 < M.length ∨ 200 < L.length)) (hu : ¬ 100 < U.length) (hm : LiesO w ao L) (hg : LiesO w uo U) (hp : LiesOI w po (fl M)) (n : Nat) (X : List Sp) (hX : X.length = n) (hn6 : n ≤ 1000000)
    (c1 : ∀ W : World, LiesO W ao L → LiesO W uo U → LiesOI W po (fl M) → Calls Try.prog 37 #[.agg #[.int .i64 a, .int .i64 b, .int .i64 c, .slice ao L.length cap], .slice uo U.length uc, .slice po M.length pc] W fun e w' => RetV7 W.heap.size n X e w' ∧ Below W.heap.size W w')
    (c2 : ∀ W : World, LiesO W ao L → LiesO W uo U → LiesOI W po (fl M) → Calls Try.prog 38 #[.agg #[.int .i64 a, .int .i64 b, .int .i64 c, .slice ao L.length cap], .slice uo U.length uc, .slice po M.length pc] W fun e w' => RetL7 W.heap.size n X e w' ∧ Below W.heap.size W w') :
    Calls Try.prog 9 #[.agg #[.int .i64 a, .int .i64 b, .int .i64 c, .slice ao L.length cap], .slice uo U.length uc, .slice po M.length pc] w fun e w' => e = .returned (.bool true) ∧ Below w.heap.size w w' := by
  have sn := sane7_any
  have lg := fun (W : World) (sb : Nat) (h1 : W.cell? ⟨sb, 0, none⟩ = some (.slice po M.length pc)) => long71_any a b c ao po cap pc L.length M.length sb false W h1 (.inl ⟨by omega, by omega, rfl⟩)
  have sk := fun (W : World) (g k g' k' : Nat) (h1 : LiesI W g 0 (fl X)) (h2 : LiesI W g' 0 (fl X)) => sameS_some g 0 k g' 0 k' n X X W true h1 h2 hX hX hn6 (decide_eq_true rfl).symm
  have H := Lib.hid hm
  have HG := Lib.hid hg
  have HP := Lib.hid hp
  have i1 : ¬ (U.length : Int) > 100 := by omega
  clear hm hg hp hn hu
  go_enter Try.func9, Try.ntmps9
  go_wp2_with (first | ((with_reducible refine (lg _ _ (by simp [go_sem])).mono ?_); clear lg; rintro e w1 ⟨rfl, hw1⟩; have hc1 := Tail.cells hw1; have zw10 := Nat.lt_of_lt_of_le (n := w.heap.size) (by simp <;> omega) hw1.size) | ((with_reducible refine (c1 _ (H.out.later (by repeat (first | (with_reducible exact Below.refl _ _) | (with_reducible refine Below.setCell ?_ ?_ _) | (with_reducible refine Below.drew ?_) | (with_reducible refine Below.alloc ?_ ?_ _) | (with_reducible refine Below.trans ?_ (Below.mono hw1 ?_)) | (with_reducible exact hw1.size) | omega | (simp <;> omega) | (simp <;> (have s := hw1.size; omega)) | (have s0 := hw1.size; (try simp at s0); (try simp); omega)))) (HG.out.later (by repeat (first | (with_reducible exact Below.refl _ _) | (with_reducible refine Below.setCell ?_ ?_ _) | (with_reducible refine Below.drew ?_) | (with_reducible refine Below.alloc ?_ ?_ _) | (with_reducible refine Below.trans ?_ (Below.mono hw1 ?_)) | (with_reducible exact hw1.size) | omega | (simp <;> omega) | (simp <;> (have s := hw1.size; omega)) | (have s0 := hw1.size; (try simp at s0); (try simp); omega)))) (HP.out.later (by repeat (first | (with_reducible exact Below.refl _ _) | (with_reducible refine Below.setCell ?_ ?_ _) | (with_reducible refine Below.drew ?_) | (with_reducible refine Below.alloc ?_ ?_ _) | (with_reducible refine Below.trans ?_ (Below.mono hw1 ?_)) | (with_reducible exact hw1.size) | omega | (simp <;> omega) | (simp <;> (have s := hw1.size; omega)) | (have s0 := hw1.size; (try simp at s0); (try simp); omega))))).mono ?_); clear c1; rintro e w2 ⟨⟨g2, k2, rfl, hb2, hg2⟩, hw2⟩; have hc2 := Tail.cells hw2; have zw20 := Nat.lt_of_lt_of_le zw10 hw2.size; have HB2 := Lib.hid hb2.liesI; clear hb2) | ((with_reducible refine (c2 _ (H.out.later (by repeat (first | (with_reducible exact Below.refl _ _) | (with_reducible refine Below.setCell ?_ ?_ _) | (with_reducible refine Below.drew ?_) | (with_reducible refine Below.alloc ?_ ?_ _) | (with_reducible refine Below.trans ?_ (Below.mono hw2 ?_)) | (with_reducible refine Below.trans ?_ (Below.mono hw1 ?_)) | (with_reducible exact hw2.size) | (with_reducible exact hw1.size) | omega | (simp <;> omega) | (simp <;> (have s := hw2.size; omega)) | (simp <;> (have s := hw1.size; omega)) | (have s0 := hw2.size; (try simp at s0); have s1 := hw1.size; (try simp at s1); (try simp); omega)))) (HG.out.later (by repeat (first | (with_reducible exact Below.refl _ _) | (with_reducible refine Below.setCell ?_ ?_ _) | (with_reducible refine Below.drew ?_) | (with_reducible refine Below.alloc ?_ ?_ _) | (with_reducible refine Below.trans ?_ (Below.mono hw2 ?_)) | (with_reducible refine Below.trans ?_ (Below.mono hw1 ?_)) | (with_reducible exact hw2.size) | (with_reducible exact hw1.size) | omega | (simp <;> omega) | (simp <;> (have s := hw2.size; omega)) | (simp <;> (have s := hw1.size; omega)) | (have s0 := hw2.size; (try simp at s0); have s1 := hw1.size; (try simp at s1); (try simp); omega)))) (HP.out.later (by repeat (first | (with_reducible exact Below.refl _ _) | (with_reducible refine Below.setCell ?_ ?_ _) | (with_reducible refine Below.drew ?_) | (with_reducible refine Below.alloc ?_ ?_ _) | (with_reducible refine Below.trans ?_ (Below.mono hw2 ?_)) | (with_reducible refine Below.trans ?_ (Below.mono hw1 ?_)) | (with_reducible exact hw2.size) | (with_reducible exact hw1.size) | omega | (simp <;> omega) | (simp <;> (have s := hw2.size; omega)) | (simp <;> (have s := hw1.size; omega)) | (have s0 := hw2.size; (try simp at s0); have s1 := hw1.size; (try simp at s1); (try simp); omega))))).mono ?_); clear c2; rintro e w3 ⟨⟨g3, k3, rfl, hb3, hg3⟩, hw3⟩; have hc3 := Tail.cells hw3; have zw30 := Nat.lt_of_lt_of_le zw20 hw3.size; have HB3 := Lib.hid hb3; clear hb3))
  go_wp2_with ((with_reducible refine (sk _ _ _ _ _ (HB2.out.later hw3) HB3.out).mono ?_); clear sk; rintro e w4 ⟨rfl, hw4⟩)
  go_wp2_with ((with_reducible refine (sn _).mono ?_); rintro e w5 ⟨rfl, hw5⟩)
  go_ret
  exact ⟨rfl, by repeat (first | (with_reducible exact Below.refl _ _) | (with_reducible refine Below.setCell ?_ ?_ _) | (with_reducible refine Below.drew ?_) | (with_reducible refine Below.alloc ?_ ?_ _) | (with_reducible refine Below.trans ?_ (Below.mono hw5 ?_)) | (with_reducible refine Below.trans ?_ (Below.mono hw4 ?_)) | (with_reducible refine Below.trans ?_ (Below.mono hw3 ?_)) | (with_reducible refine Below.trans ?_ (Below.mono hw2 ?_)) | (with_reducible refine Below.trans ?_ (Below.mono hw1 ?_)) | (with_reducible exact hw5.size) | (with_reducible exact hw4.size) | (with_reducible exact hw3.size) | (with_reducible exact hw2.size) | (with_reducible exact hw1.size) | omega | (simp <;> omega) | (simp <;> (have s := hw5.size; omega)) | (simp <;> (have s := hw4.size; omega)) | (simp <;> (have s := hw3.size; omega)) | (simp <;> (have s := hw2.size; omega)) | (simp <;> (have s := hw1.size; omega)) | (have s0 := hw5.size; (try simp at s0); have s1 := hw4.size; (try simp at s1); have s2 := hw3.size; (try simp at s2); have s3 := hw2.size; (try simp at s3); have s4 := hw1.size; (try simp at s4); (try simp); omega))⟩
theorem fermiTurns_walk (a b c : Int) (ao : Option Addr) (L : List Q) (cap : Nat) (uo : Option Addr) (U : List Q) (uc : Nat) (po : Option Addr) (M : List Sp) (pc : Nat) (w : World) (_ : L.length ≤ maxLen) (hm : LiesO w ao L) (_ : U.length ≤ maxLen) (hg : LiesO w uo U) (_ : M.length ≤ pc) (_ : pc ≤ maxLen) (hp : LiesOI w po (fl M)) (_ : po = none → pc = 0) : Calls Try.prog 9 #[.agg #[.int .i64 a, .int .i64 b, .int .i64 c, .slice ao L.length cap], .slice uo U.length uc, .slice po M.length pc] w fun e w' => e = .returned (.bool true) ∧ Below w.heap.size w w' := by
  by_cases hn : 100 < M.length ∨ 200 < L.length
  · exact fermiTurns_long a b c ao uo po L U M cap uc pc w hn
  · by_cases hu : 100 < U.length
    · exact fermiTurns_many a b c ao uo po L U M cap uc pc w hn hu
    · obtain ⟨ns, r0, hr⟩ := nums7_ex a b c L
      obtain ⟨r1, hv⟩ := vS_ex L.length M r0
      by_cases h0 : r1 = 0
      · by_cases hl : U.length = M.length
        · have hv0 := hv
          rw [h0] at hv0
          obtain ⟨e0, hM, -⟩ := vS_ok hv0
          have hr0 := hr
          rw [e0] at hr0
          obtain ⟨n, hF⟩ := fld7 hr0
          have hpos : 0 < M.length := by have := hF.pos; have := hF.l; omega
          have c1 := fun (W : World) (k1 : LiesO W ao L) (k2 : LiesO W uo U) (k3 : LiesOI W po (fl M)) => turned_on a b c r0 r1 ao uo po cap uc pc L ns U M W k1 k2 k3 hr hv h0 hl hpos (by omega) (by omega)
          have c2 := fun (W : World) (k1 : LiesO W ao L) (k2 : LiesO W uo U) (k3 : LiesOI W po (fl M)) => refTurned_on a b c r0 r1 ao uo po cap uc pc L ns U M W k1 k2 k3 hr hv h0 hl hpos (by omega) (by omega)
          by_cases hA : AllU U
          · exact fermiTurns_ok a b c ao uo po L U M cap uc pc w hn hu hm hg hp M.length (tuL U M) (tuL_len U M) (by omega)
              (fun W k1 k2 k3 => (c1 W k1 k2 k3).mono fun e w' ⟨k, hw⟩ => ⟨by rcases k with ⟨_, k⟩ | ⟨k, _⟩; exact k; exact absurd hA k, hw⟩)
              (fun W k1 k2 k3 => (c2 W k1 k2 k3).mono fun e w' ⟨k, hw⟩ => ⟨by rcases k with ⟨_, k⟩ | ⟨k, _⟩; exact k; exact absurd hA k, hw⟩)
          · exact fermiTurns_nil a b c 1 ao uo po L U M cap uc pc w hn hu hm hg hp
              (fun W k1 k2 k3 => (c1 W k1 k2 k3).mono fun e w' ⟨k, hw⟩ => ⟨by rcases k with ⟨k, _⟩ | ⟨_, k⟩; exact absurd k hA; exact k, hw⟩)
              (fun W k1 k2 k3 => (c2 W k1 k2 k3).mono fun e w' ⟨k, hw⟩ => ⟨by rcases k with ⟨k, _⟩ | ⟨_, k⟩; exact absurd k hA; exact k, hw⟩)
        · exact fermiTurns_nil a b c 1 ao uo po L U M cap uc pc w hn hu hm hg hp
            (fun W k1 k2 k3 => turned_off a b c r0 r1 ao uo po cap uc pc L ns U M W k1 k2 k3 hr hv h0 hl (by omega) (by omega))
            (fun W k1 k2 k3 => refTurned_off a b c r0 r1 ao uo po cap uc pc L ns U M W k1 k2 k3 hr hv h0 hl (by omega) (by omega))
      · exact fermiTurns_nil a b c r1 ao uo po L U M cap uc pc w hn hu hm hg hp
          (fun W k1 k2 k3 => turned_err a b c r0 r1 ao uo po cap uc pc L ns U M W k1 k2 k3 hr hv h0 (by omega) (by omega))
          (fun W k1 k2 k3 => refTurned_err a b c r0 r1 ao uo po cap uc pc L ns U M W k1 k2 k3 hr hv h0 (by omega) (by omega))

/-! ### The statement of the law FermiTurns, out of its walk -/
set_option maxRecDepth 100000 in
theorem fermiTurns_lifted (os : Os) (started : os.Started) (H : Type) (enc : TypeId × Value → H) :
    ReturnsInHanded {} Try.checked os 9 .any (Rows.fermiTurnsSpec.pre6 enc Try.prog Try.f9 Rows.fermiTurnsRow.domain false) (Rows.fermiTurnsSpec.post enc Try.prog Try.f9 false true false false) := by
  refine returnsInHanded_of_change (C := Try.checked) own started (by kernel_rfl) Try.func9
    (ChangeSpec.witness6 (enc := enc) (C := Try.checked) false ⟨#[], #[.agg #[.int .i64 0, .int .i64 0, .int .i64 0, .slice none 0 0], .slice none 0 0, .slice none 0 0], []⟩ 8 (by kernel_rfl) (by kernel_rfl) (by kernel_rfl) (by kernel_rfl)) ?_
  intro W base args ds gs before hval0 hW hcnd _
  have hval : ∀ (j : Nat) t v, Try.f9.params[j]? = some t → args[j]? = some v → Value.okWide Try.prog W .any base t v := hval0
  have hW' := hW
  obtain ⟨p, q, hA0, hV, rfl, hfz, hnd⟩ := hW
  have hA : DataW.TrodAll enc Try.prog W 0 (fun _ => true) true Try.f9.params.toList args.toList ds p := hA0
  rw [Try.params9] at hA hval
  obtain ⟨v0, vs0, d0, ds0, p0, q0, hargs, rfl, rfl, h0, r0⟩ := trodAll_cons hA
  obtain ⟨v1, vs1, d1, ds1, p1, q1, rfl, rfl, rfl, h1, r1⟩ := trodAll_cons r0
  obtain ⟨v2, vs2, d2, ds2, p2, q2, rfl, rfl, rfl, h2, r2⟩ := trodAll_cons r1
  obtain ⟨rfl, rfl, rfl⟩ := trodAll_nil r2
  obtain rfl : args = #[v0, v1, v2] := by cases args; simp_all
  obtain ⟨rfl, rfl⟩ := trodVars_none hV
  have k0 := h0
  have lt0 : ∀ x ∈ p0, x.block < W.heap.size := by obtain ⟨m, hm⟩ := k0; exact DataW.trod_lt m _ _ _ hm
  obtain ⟨x0, y0, z0, ao0, L0, cap0, rfl, hl0, hm0⟩ := open_field (hval 0 25 v0 rfl rfl) h0
  have k1 := h1
  have lt1 : ∀ x ∈ p1, x.block < W.heap.size := by obtain ⟨m, hm⟩ := k1; exact DataW.trod_lt m _ _ _ hm
  obtain ⟨ao1, L1, cap1, rfl, hl1, hm1⟩ := open_units (hval 1 23 v1 rfl rfl) h1
  have k2 := h2
  have lt2 : ∀ x ∈ p2, x.block < W.heap.size := by obtain ⟨m, hm⟩ := k2; exact DataW.trod_lt m _ _ _ hm
  obtain ⟨po2, M2, pc2, rfl, hkc2, hkl2, hkm2, hkz2⟩ := open_spins (hval 2 26 v2 rfl rfl) h2
  clear hA0 hval0
  refine (fermiTurns_walk x0 y0 z0 ao0 L0 cap0 ao1 L1 cap1 po2 M2 pc2 W hl0 hm0 hl1 hm1 hkc2 hkl2 hkm2 hkz2).mono fun e W' ⟨he, bel⟩ => ?_
  subst he
  exact ⟨_, rfl, _, _, _, [], _, [], hW', trodAll_mk1 (shut_bool Try.underlying4 _), (trodAll_cons_mk (Below.trod laidOut (by kernel_rfl) (of_decide_eq_true (by kernel_rfl)) k0 bel lt0) (trodAll_cons_mk (Below.trod laidOut (by kernel_rfl) (of_decide_eq_true (by kernel_rfl)) k1 bel lt1) (trodAll_cons_mk (Below.trod laidOut (by kernel_rfl) (of_decide_eq_true (by kernel_rfl)) k2 bel lt2) trodAll_mk0))), rfl, bel.frame _, fun h => by cases h⟩

theorem fermiTurns_jf9 : (Rows.fermiTurnsRow.inPlace == Try.prog.inPlace 9) = true := by kernel_rfl
theorem fermiTurns_jf10 : (Rows.fermiTurnsRow.unfollowed == Try.prog.unfollowed 9) = true := by kernel_rfl
theorem fermiTurns_jf11 : (Rows.fermiTurnsRow.recurses == Try.prog.recurses 9) = true := by kernel_rfl
theorem fermiTurns_jf12 : (Rows.fermiTurnsRow.named == Try.prog.varsNamed 9) = true := by kernel_rfl
theorem fermiTurns_facts : joinedFacts Try.prog 9 Try.f9 Rows.fermiTurnsSpec Rows.fermiTurnsRow = true := by
  unfold joinedFacts
  exact (band (band (band (band (band (band (band (band (band (band (band (band (band (band (band (band (band (band (band (band (band (band (band (band (band (band (band (band (band (band (band (by kernel_rfl) jf1) jf2) (by kernel_rfl)) (by kernel_rfl)) (by kernel_rfl)) jf6) (by kernel_rfl)) jf8) fermiTurns_jf9) fermiTurns_jf10) fermiTurns_jf11) fermiTurns_jf12) (by kernel_rfl)) (by kernel_rfl)) (by kernel_rfl)) (by kernel_rfl)) (by kernel_rfl)) (by kernel_rfl)) (by kernel_rfl)) (by kernel_rfl)) (by kernel_rfl)) (by kernel_rfl)) (by kernel_rfl)) jf24) jf25) jf26) jf27) (by kernel_rfl)) (by kernel_rfl)) (by kernel_rfl)) (by kernel_rfl))

theorem fermiTurns_over : Rows.fermiTurnsRow.holds Try.pinned (OpenSpec.ofChange Rows.fermiTurnsSpec) :=
  OpenClaim.holds_of_wide 9 Try.f9 rfl rfl rfl rfl rfl rfl rfl ⟨rfl, rfl, rfl, rfl, rfl⟩ rfl rfl rfl rfl rfl (by kernel_rfl) Try.func9 fermiTurns_facts
    (of_decide_eq_true (by kernel_rfl)) (by unfold Func.isWrapper; first | (rw [if_pos (by decide +kernel)]; kernel_rfl) | (rw [if_neg (by decide +kernel)]; exact ⟨rfl, rfl⟩))
    (fun os started H enc _ => fermiTurns_lifted os started H enc)

theorem fermiTurns_holds : Rows.FermiTurnsSaid := fermiTurns_over
#print axioms fermiTurns_holds

end Go.Proofs.Ytmnlfojcofdaeaa
