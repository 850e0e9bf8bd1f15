/- Which changes of the energy a draw accepts, as the program and the document's answers find them.
Conditions: none. -/
import Derived.Test.YtilbhcjnkmeecaaGreatRows
import Derived.Test.YtilbhcjnkmeecaaGreatPkMathA
import Derived.Test.YtilbhcjnkmeecaaGreatPkRegA
import Derived.WalkKit
import Derived.WalkSpells
import Derived.WalkLawsBesides
import Derived.Lib.Hide
import Derived.BigQuiet
import Derived.Deep.DeepFit
import Derived.Test.YtilbhcjnkmeecaaGreatPkQuatB
namespace Go.Proofs.YtilbhcjnkmeecaaGreat
set_option linter.unusedVariables false
set_option linter.unusedSimpArgs false
set_option maxRecDepth 1000000
open Go.RowKit
open Km

set_option maxHeartbeats 400000 in
theorem pWithin_any (n lo hi : Int) (w : World) (r : Bool) (h : (lo ≤ n ∧ n ≤ hi ∧ r = true) ∨ (¬ (lo ≤ n ∧ n ≤ hi) ∧ r = false)) :
    Calls Tryz.prog 36 #[.int .i64 n, .int .i64 lo, .int .i64 hi] w fun e w' => e = .returned (.bool r) ∧ w = w' := by
  rcases h with ⟨a, b, rfl⟩ | ⟨h, rfl⟩
  · go_enter Tryz.func36, Tryz.ntmps36
    go_wp2
    go_ret
    exact ⟨rfl, rfl⟩
  · by_cases a : lo ≤ n
    · have b : ¬ n ≤ hi := fun b => h ⟨a, b⟩
      clear h
      go_enter Tryz.func36, Tryz.ntmps36
      go_wp2
      go_ret
      exact ⟨rfl, rfl⟩
    · clear h
      go_enter Tryz.func36, Tryz.ntmps36
      go_wp2
      go_ret
      exact ⟨rfl, rfl⟩
set_option maxHeartbeats 400000 in
theorem within6_any (n lo hi : Int) (w : World) (r : Bool) (h : (lo ≤ n ∧ n ≤ hi ∧ r = true) ∨ (¬ (lo ≤ n ∧ n ≤ hi) ∧ r = false)) :
    Calls Tryz.prog 38 #[.int .i64 n, .int .i64 lo, .int .i64 hi] w fun e w' => e = .returned (.bool r) ∧ w = w' := by
  rcases h with ⟨a, b, rfl⟩ | ⟨h, rfl⟩
  · go_enter Tryz.func38, Tryz.ntmps38
    go_wp2
    go_ret
    exact ⟨rfl, rfl⟩
  · by_cases a : lo ≤ n
    · have b : ¬ n ≤ hi := fun b => h ⟨a, b⟩
      clear h
      go_enter Tryz.func38, Tryz.ntmps38
      go_wp2
      go_ret
      exact ⟨rfl, rfl⟩
    · clear h
      go_enter Tryz.func38, Tryz.ntmps38
      go_wp2
      go_ret
      exact ⟨rfl, rfl⟩
/-- what is answered to a change and a draw -/
def accR (ch d : Int) (b : Bool) (r : Int) : Prop := ((0 ≤ d ∧ d ≤ 1073741823) ∧ b = acc ch d ∧ r = 0) ∨ (¬ (0 ≤ d ∧ d ≤ 1073741823) ∧ b = false ∧ r = 1)
theorem acc_low {ch d : Int} (h : ch ≤ 0) : acc ch d = true := by simp [acc, h]
theorem acc_high {ch d : Int} (h : 30 < ch) : acc ch d = false := by
  have h1 : ¬ ch ≤ 0 := by omega
  have h2 : ¬ ch ≤ 30 := by omega
  simp [acc, h1, h2]
theorem acc_mid {ch d : Int} (h1 : 0 < ch) (h2 : ch ≤ 30) : acc ch d = (d % 2 ^ ch.toNat == 0) := by
  have h0 : ¬ ch ≤ 0 := by omega
  simp only [acc, h0, h2, decide_false, decide_true, Bool.false_or, Bool.true_and]
  rfl
theorem pow_rng {ch : Int} (h1 : 0 < ch) (h2 : ch ≤ 30) : 1 ≤ (2 : Int) ^ ch.toNat ∧ (2 : Int) ^ ch.toNat ≤ 1073741824 := by
  obtain ⟨k, rfl⟩ := Int.eq_ofNat_of_zero_le (show 0 ≤ ch by omega)
  have hk : k ≤ 30 := by omega
  clear h1 h2
  have key : ∀ k : Nat, k ≤ 30 → 1 ≤ (2 : Int) ^ k ∧ (2 : Int) ^ k ≤ 1073741824 := by decide
  exact key k hk
set_option maxHeartbeats 800000 in
theorem accept_any (ch d r : Int) (b : Bool) (w : World) (h : accR ch d b r) : Calls Tryz.prog 43 #[.int .i64 ch, .int .i64 d] w fun e w' => e = .returned (.tuple #[.bool b, .int .i64 r]) ∧ w = w' := by
  rcases h with ⟨⟨d0, d1⟩, rfl, rfl⟩ | ⟨h, rfl, rfl⟩
  · have c1 := fun W : World => pWithin_any d 0 1073741823 W true (.inl ⟨d0, d1, rfl⟩)
    by_cases h0 : ch ≤ 0
    · rw [acc_low h0]
      go_enter Tryz.func43, Tryz.ntmps43
      go_wp2_with ((with_reducible refine (c1 _).mono ?_); rintro e w1 ⟨rfl, rfl⟩)
      go_ret2
      exact ⟨rfl, rfl⟩
    · by_cases h1 : 30 < ch
      · rw [acc_high h1]
        go_enter Tryz.func43, Tryz.ntmps43
        go_wp2_with ((with_reducible refine (c1 _).mono ?_); rintro e w1 ⟨rfl, rfl⟩)
        go_ret2
        exact ⟨rfl, rfl⟩
      · have g0 : 0 < ch := by omega
        have g1 : ch ≤ 30 := by omega
        rw [acc_mid g0 g1]
        obtain ⟨p1, p2⟩ := pow_rng g0 g1
        have e1 : (1 : Int) * 2 ^ ch.toNat = 2 ^ ch.toNat := Int.one_mul _
        have e2 : IntKind.i64.wrap (2 ^ ch.toNat) = 2 ^ ch.toNat := IntWalk.i64_in _ (by omega)
        have e2' : wrap64 (2 ^ ch.toNat) = 2 ^ ch.toNat := IntWalk.wrap64_in _ (by omega)
        have e3 : d.tmod (2 ^ ch.toNat) = d % (2 ^ ch.toNat) := Int.tmod_eq_emod_of_nonneg d0
        have m0 := Int.emod_nonneg d (show (2 : Int) ^ ch.toNat ≠ 0 by omega)
        have m1 := Int.emod_lt_of_pos d (show 0 < (2 : Int) ^ ch.toNat by omega)
        have e4 : ((2 : Int) ^ ch.toNat == 0) = false := by simp; omega
        go_enter Tryz.func43, Tryz.ntmps43
        go_wp2_with ((with_reducible refine (c1 _).mono ?_); rintro e w1 ⟨rfl, rfl⟩)
        go_ret2
        exact ⟨rfl, rfl⟩
  · have c1 := fun W : World => pWithin_any d 0 1073741823 W false (.inr ⟨h, rfl⟩)
    clear h
    go_enter Tryz.func43, Tryz.ntmps43
    go_wp2_with ((with_reducible refine (c1 _).mono ?_); rintro e w1 ⟨rfl, rfl⟩)
    go_ret2
    exact ⟨rfl, rfl⟩
set_option maxHeartbeats 800000 in
theorem accepts_any (ch d : Int) (w : World) (d0 : 0 ≤ d) (d1 : d ≤ 1073741823) : Calls Tryz.prog 51 #[.int .i64 ch, .int .i64 d] w fun e w' => e = .returned (.bool (acc ch d)) ∧ w = w' := by
  by_cases h0 : ch ≤ 0
  · rw [acc_low h0]
    go_enter Tryz.func51, Tryz.ntmps51
    go_wp2
    go_ret
    exact ⟨rfl, rfl⟩
  · by_cases h1 : 30 < ch
    · rw [acc_high h1]
      go_enter Tryz.func51, Tryz.ntmps51
      go_wp2
      go_ret
      exact ⟨rfl, rfl⟩
    · have g0 : 0 < ch := by omega
      have g1 : ch ≤ 30 := by omega
      rw [acc_mid g0 g1]
      obtain ⟨p1, p2⟩ := pow_rng g0 g1
      have e1 : (1 : Int) * 2 ^ ch.toNat = 2 ^ ch.toNat := Int.one_mul _
      have e2 : IntKind.i64.wrap (2 ^ ch.toNat) = 2 ^ ch.toNat := IntWalk.i64_in _ (by omega)
      have e2' : wrap64 (2 ^ ch.toNat) = 2 ^ ch.toNat := IntWalk.wrap64_in _ (by omega)
      have e3 : d.tmod (2 ^ ch.toNat) = d % (2 ^ ch.toNat) := Int.tmod_eq_emod_of_nonneg d0
      have m0 := Int.emod_nonneg d (show (2 : Int) ^ ch.toNat ≠ 0 by omega)
      have m1 := Int.emod_lt_of_pos d (show 0 < (2 : Int) ^ ch.toNat by omega)
      have e4 : ((2 : Int) ^ ch.toNat == 0) = false := by simp; omega
      go_enter Tryz.func51, Tryz.ntmps51
      go_wp2
      go_ret
      exact ⟨rfl, rfl⟩
end Go.Proofs.YtilbhcjnkmeecaaGreat

/- Centered numbers, signs and turners, as the program and the document's answers make them.
Conditions: those written at each theorem. -/
namespace Go.Proofs.YtilbhcjnkmeecaaGreat
set_option linter.unusedVariables false
set_option linter.unusedSimpArgs false
set_option maxRecDepth 1000000
open Go.RowKit
open Um Km

theorem trn_eq (n : Int) : (n.tmod 8 + 8) % 8 = n % 8 := Tm.rem_twice n 8 (by omega)
theorem trn_rng (n : Int) : -7 ≤ n.tmod 8 ∧ n.tmod 8 ≤ 7 := by
  have := Tm.rem_bnd n 8 (by omega)
  omega
set_option maxHeartbeats 400000 in
theorem turned_any (n : Int) (w : World) : Calls Tryz.prog 57 #[.int .i64 n] w fun e w' => e = .returned (.int .i64 (n % 8)) ∧ w = w' := by
  have HE := Lib.hid (trn_eq n)
  obtain ⟨h1, h2⟩ := trn_rng n
  have h3 : 0 ≤ n.tmod 8 + 8 := by omega
  go_enter Tryz.func57, Tryz.ntmps57
  go_wp2
  go_ret
  exact ⟨by first | rfl | (rw [← HE.out]; rfl), rfl⟩
set_option maxHeartbeats 400000 in
theorem center_any (n : Int) (w : World) : Calls Tryz.prog 28 #[.int .i64 n] w fun e w' => e = .returned (.int .i64 (ctr n)) ∧ w = w' := by
  have c1 := fun W : World => turned_any n W
  have r1 : 0 ≤ n % 8 := by omega
  have r2 : n % 8 ≤ 7 := by omega
  unfold ctr
  generalize n % 8 = m at *
  by_cases h : 4 < m
  · rw [if_pos h]
    go_enter Tryz.func28, Tryz.ntmps28
    go_wp2_with ((with_reducible refine (c1 _).mono ?_); rintro e w1 ⟨rfl, rfl⟩)
    go_ret
    exact ⟨rfl, rfl⟩
  · rw [if_neg h]
    go_enter Tryz.func28, Tryz.ntmps28
    go_wp2_with ((with_reducible refine (c1 _).mono ?_); rintro e w1 ⟨rfl, rfl⟩)
    go_ret
    exact ⟨rfl, rfl⟩
theorem ctr_rng (n : Int) : -3 ≤ ctr n ∧ ctr n ≤ 4 := by unfold ctr; split <;> omega
set_option maxHeartbeats 400000 in
theorem sign_any (n : Int) (w : World) : Calls Tryz.prog 78 #[.int .i64 n] w fun e w' => e = .returned (.int .i64 (sd n)) ∧ w = w' := by
  have c1 := fun W : World => center_any n W
  obtain ⟨r1, r2⟩ := ctr_rng n
  unfold sd
  generalize ctr n = m at *
  by_cases h : m < 0
  · rw [if_pos h]
    go_enter Tryz.func78, Tryz.ntmps78
    go_wp2_with ((with_reducible refine (c1 _).mono ?_); rintro e w1 ⟨rfl, rfl⟩)
    go_ret
    exact ⟨rfl, rfl⟩
  · rw [if_neg h]
    by_cases h0 : m = 0
    · subst h0
      go_enter Tryz.func78, Tryz.ntmps78
      go_wp2_with ((with_reducible refine (c1 _).mono ?_); rintro e w1 ⟨rfl, rfl⟩)
      go_ret
      exact ⟨rfl, rfl⟩
    · by_cases h4 : m = 4
      · subst h4
        go_enter Tryz.func78, Tryz.ntmps78
        go_wp2_with ((with_reducible refine (c1 _).mono ?_); rintro e w1 ⟨rfl, rfl⟩)
        go_ret
        exact ⟨rfl, rfl⟩
      · rw [if_neg (by omega)]
        have b0 : (m == 0) = false := by simpa using h0
        have b4 : (m == 4) = false := by simpa using h4
        go_enter Tryz.func78, Tryz.ntmps78
        go_wp2_with ((with_reducible refine (c1 _).mono ?_); rintro e w1 ⟨rfl, rfl⟩)
        go_ret
        exact ⟨rfl, rfl⟩
/-- what changes nothing changes nothing below -/
theorem still {f : FuncId} {ar : Array Value} {W : World} {v : Ending} (h : Calls Tryz.prog f ar W fun e w' => e = v ∧ W = w') : Calls Tryz.prog f ar W fun e w' => e = v ∧ Below W.heap.size W w' :=
  h.mono fun _ _ k => ⟨k.1, k.2 ▸ Below.refl _ _⟩
/-- the turner of three signs -/
def tS (a b c : Int) : Q := if a ≠ 0 ∧ b ≠ 0 ∧ c ≠ 0 then ⟨1, a, b, c, 2⟩ else if a ≠ 0 then ⟨0, a, 0, 0, 1⟩ else if b ≠ 0 then ⟨0, 0, b, 0, 1⟩ else if c ≠ 0 then ⟨0, 0, 0, c, 1⟩ else ⟨1, 0, 0, 0, 1⟩
theorem tS_turn (k : Kk) : turn k = tS (sd k.a) (sd k.b) (sd k.c) := rfl
theorem tS_cases (a b c : Int) : (((a != 0) = true ∧ (b != 0) = true ∧ (c != 0) = true) ∧ tS a b c = ⟨1, a, b, c, 2⟩) ∨ (((a != 0) = true ∧ (b != 0) = true ∧ c = 0) ∧ tS a b c = ⟨0, a, 0, 0, 1⟩) ∨ (((a != 0) = true ∧ b = 0) ∧ tS a b c = ⟨0, a, 0, 0, 1⟩) ∨ ((a = 0 ∧ (b != 0) = true) ∧ tS a b c = ⟨0, 0, b, 0, 1⟩) ∨ ((a = 0 ∧ b = 0 ∧ (c != 0) = true) ∧ tS a b c = ⟨0, 0, 0, c, 1⟩) ∨ ((a = 0 ∧ b = 0 ∧ c = 0) ∧ tS a b c = ⟨1, 0, 0, 0, 1⟩) := by
  by_cases ha : a = 0 <;> by_cases hb : b = 0 <;> by_cases hc : c = 0 <;> simp [tS, ha, hb, hc]
set_option maxHeartbeats 1600000 in
theorem turner_any (k : Kk) (w : World) : Calls Tryz.prog 56 #[.agg #[.int .i64 k.a, .int .i64 k.b, .int .i64 k.c]] w fun e w' => e = .returned (.agg #[.int .i64 (turn k).a, .int .i64 (turn k).b, .int .i64 (turn k).c, .int .i64 (turn k).d, .int .i64 (turn k).n]) ∧ Below w.heap.size w w' := by
  have c1 := fun W : World => still (sign_any k.a W)
  have c2 := fun W : World => still (sign_any k.b W)
  have c3 := fun W : World => still (sign_any k.c W)
  rw [tS_turn]
  generalize sd k.a = a at *
  generalize sd k.b = b at *
  generalize sd k.c = c at *
  have kc := @Tail.cell_re
  have kc1 : ∀ (W : World) (o : Obj) (d : Nat) (os : Array Obj) (a : Addr), a.block ≤ W.heap.size → (Sort.grow (redrawn (W.alloc o) d) os).cell? a = (W.alloc o).cell? a := fun W o d os a h => Tail.cell_re (W.alloc o) d os a (Nat.lt_of_le_of_lt h (by simp))
  rcases tS_cases a b c with ⟨⟨h1, h2, h3⟩, h⟩ | ⟨⟨h1, h2, rfl⟩, h⟩ | ⟨⟨h1, rfl⟩, h⟩ | ⟨⟨rfl, h2⟩, h⟩ | ⟨⟨rfl, rfl, h3⟩, h⟩ | ⟨⟨rfl, rfl, rfl⟩, h⟩
  all_goals
    rw [h]
    clear h
    go_enter Tryz.func56, Tryz.ntmps56
    go_wp2
    refine Tail.region_below (by kernel_rfl) (by kernel_rfl) ?_
    repeat (go_big_quiet_step (first | (with_reducible exact Calls.regrown_of (c1 _)) | (with_reducible exact Calls.regrown_of (c2 _)) | (with_reducible exact Calls.regrown_of (c3 _))))
    refine wpQuiet_nil ?_
    intro w1 hw1
    have hc1 := Tail.cells hw1
    have z1 := Nat.lt_of_lt_of_le (n := w.heap.size + 1) (by simp <;> omega) hw1.size
    go_wp2
    refine bodyPost_ret (v := _) (by simp [results, Tryz.results56, go_sem, hc1, z1]; try rfl) rfl ⟨rfl, ?_⟩
    repeat (first | (with_reducible exact Below.refl _ _) | (with_reducible refine Below.setCell ?_ ?_ _) | (with_reducible refine Below.drew ?_) | (with_reducible refine Below.alloc ?_ ?_ _) | (with_reducible refine Below.trans ?_ (Below.mono hw1 ?_)) | (with_reducible exact hw1.size) | omega | (simp <;> omega) | (simp <;> (have s := hw1.size; omega)) | (have s0 := hw1.size; (try simp at s0); (try simp); omega))
theorem ixK0 (x y z : Int) : ∀ w, (Instr.index 38 (.agg #[.int .i64 x, .int .i64 y, .int .i64 z]) (.int .i64 0)).run Tryz.prog w = .ok (.int .i64 x) w := fun _ => by kernel_rfl
theorem ixK1 (x y z : Int) : ∀ w, (Instr.index 38 (.agg #[.int .i64 x, .int .i64 y, .int .i64 z]) (.int .i64 1)).run Tryz.prog w = .ok (.int .i64 y) w := fun _ => by kernel_rfl
theorem ixK2 (x y z : Int) : ∀ w, (Instr.index 38 (.agg #[.int .i64 x, .int .i64 y, .int .i64 z]) (.int .i64 2)).run Tryz.prog w = .ok (.int .i64 z) w := fun _ => by kernel_rfl
set_option maxHeartbeats 1600000 in
theorem isKick_any (k : Kk) (w : World) (r : Bool) (h : r = decide (IsK k)) : Calls Tryz.prog 55 #[.agg #[.int .i64 k.a, .int .i64 k.b, .int .i64 k.c]] w fun e w' => e = .returned (.bool r) ∧ Below w.heap.size w w' := by
  have yes := fun (n : Int) (hn : IsN n) (W : World) => pWithin_any n 0 7 W true (.inl ⟨hn.1, hn.2, rfl⟩)
  have i0 := ixK0 k.a k.b k.c
  have i1 := ixK1 k.a k.b k.c
  have i2 := ixK2 k.a k.b k.c
  have no := fun (n : Int) (hn : ¬ IsN n) (W : World) => pWithin_any n 0 7 W false (.inr ⟨hn, rfl⟩)
  by_cases ha : IsN k.a
  · have c1 := yes _ ha
    by_cases hb : IsN k.b
    · have c2 := yes _ hb
      by_cases hc : IsN k.c
      · have c3 := yes _ hc
        obtain rfl : r = true := by rw [h]; exact decide_eq_true ⟨ha, hb, hc⟩
        clear h ha hb hc yes no
        go_enter Tryz.func55, Tryz.ntmps55
        go_wp2
        refine wp_loop_rounds 4 ?_
        rw [rounds_succ]
        go_wp2_with (with_reducible refine (c1 _).mono ?_; rintro e w1 ⟨rfl, rfl⟩)
        rw [rounds_succ]
        go_wp2_with (with_reducible refine (c2 _).mono ?_; rintro e w1 ⟨rfl, rfl⟩)
        rw [rounds_succ]
        go_wp2_with (with_reducible refine (c3 _).mono ?_; rintro e w1 ⟨rfl, rfl⟩)
        rw [rounds_succ]
        go_wp2
        go_ret
        exact ⟨rfl, by repeat (first | (with_reducible exact Below.refl _ _) | (with_reducible refine Below.setCell ?_ ?_ _) | (with_reducible refine Below.drew ?_) | (with_reducible refine Below.alloc ?_ ?_ _) | omega | (simp <;> omega))⟩
      · have c3 := no _ hc
        obtain rfl : r = false := by rw [h]; exact decide_eq_false fun q => hc q.2.2
        clear h ha hb hc yes no
        go_enter Tryz.func55, Tryz.ntmps55
        go_wp2
        refine wp_loop_rounds 4 ?_
        rw [rounds_succ]
        go_wp2_with (with_reducible refine (c1 _).mono ?_; rintro e w1 ⟨rfl, rfl⟩)
        rw [rounds_succ]
        go_wp2_with (with_reducible refine (c2 _).mono ?_; rintro e w1 ⟨rfl, rfl⟩)
        rw [rounds_succ]
        go_wp2_with (with_reducible refine (c3 _).mono ?_; rintro e w1 ⟨rfl, rfl⟩)
        go_ret
        exact ⟨rfl, by repeat (first | (with_reducible exact Below.refl _ _) | (with_reducible refine Below.setCell ?_ ?_ _) | (with_reducible refine Below.drew ?_) | (with_reducible refine Below.alloc ?_ ?_ _) | omega | (simp <;> omega))⟩
    · have c2 := no _ hb
      obtain rfl : r = false := by rw [h]; exact decide_eq_false fun q => hb q.2.1
      clear h ha hb yes no
      go_enter Tryz.func55, Tryz.ntmps55
      go_wp2
      refine wp_loop_rounds 4 ?_
      rw [rounds_succ]
      go_wp2_with (with_reducible refine (c1 _).mono ?_; rintro e w1 ⟨rfl, rfl⟩)
      rw [rounds_succ]
      go_wp2_with (with_reducible refine (c2 _).mono ?_; rintro e w1 ⟨rfl, rfl⟩)
      go_ret
      exact ⟨rfl, by repeat (first | (with_reducible exact Below.refl _ _) | (with_reducible refine Below.setCell ?_ ?_ _) | (with_reducible refine Below.drew ?_) | (with_reducible refine Below.alloc ?_ ?_ _) | omega | (simp <;> omega))⟩
  · have c1 := no _ ha
    obtain rfl : r = false := by rw [h]; exact decide_eq_false fun q => ha q.1
    clear h ha yes no
    go_enter Tryz.func55, Tryz.ntmps55
    go_wp2
    refine wp_loop_rounds 4 ?_
    rw [rounds_succ]
    go_wp2_with (with_reducible refine (c1 _).mono ?_; rintro e w1 ⟨rfl, rfl⟩)
    go_ret
    exact ⟨rfl, by repeat (first | (with_reducible exact Below.refl _ _) | (with_reducible refine Below.setCell ?_ ?_ _) | (with_reducible refine Below.drew ?_) | (with_reducible refine Below.alloc ?_ ?_ _) | omega | (simp <;> omega))⟩
set_option maxHeartbeats 800000 in
theorem turnerO_any (k : Kk) (w : World) (r : Int) (x : Q) (h : (IsK k ∧ x = turn k ∧ r = 0) ∨ (¬ IsK k ∧ x = zero ∧ r = 1)) : Calls Tryz.prog 27 #[.agg #[.int .i64 k.a, .int .i64 k.b, .int .i64 k.c]] w fun e w' => e = .returned (.tuple #[.agg #[.int .i64 x.a, .int .i64 x.b, .int .i64 x.c, .int .i64 x.d, .int .i64 x.n], .int .i64 r]) ∧ Below w.heap.size w w' := by
  rcases h with ⟨hk, rfl, rfl⟩ | ⟨hk, rfl, rfl⟩
  · have c1 := fun W : World => isKick_any k W true (decide_eq_true hk).symm
    have c2 := fun W : World => turner_any k W
    clear hk
    generalize turn k = x at *
    go_enter Tryz.func27, Tryz.ntmps27
    go_wp2_with (first | ((with_reducible refine (c1 _).mono ?_); clear c1; rintro e w1 ⟨rfl, hw1⟩; have hc1 := Tail.cells hw1; have s1 := hw1.size; (try simp at s1); (try have z1_0 : w.heap.size < w1.heap.size := (by omega)); (try have z1_1 : w.heap.size + 1 < w1.heap.size := (by omega)); clear s1) | ((with_reducible refine (c2 _).mono ?_); clear c2; rintro e w2 ⟨rfl, hw2⟩; have hc2 := Tail.cells hw2; have s2 := hw2.size; (try simp at s2); (try have z2_0 : w.heap.size < w2.heap.size := (by omega)); (try have z2_1 : w.heap.size + 1 < w2.heap.size := (by omega)); (try have z2_2 : w1.heap.size < w2.heap.size := (by omega)); clear s2))
    refine bodyPost_ret (v := .tuple #[.agg #[.int .i64 x.a, .int .i64 x.b, .int .i64 x.c, .int .i64 x.d, .int .i64 x.n], .int .i64 0]) ?_ rfl ⟨rfl, ?_⟩
    · simp [results, Tryz.results27, go_sem, hc1, hc2, z1_0, z1_1, z2_0, z2_1]
    · repeat (first | (with_reducible exact Below.refl _ _) | (with_reducible refine Below.setCell ?_ ?_ _) | (with_reducible refine Below.drew ?_) | (with_reducible refine Below.alloc ?_ ?_ _) | (with_reducible refine Below.trans ?_ (Below.mono hw2 ?_)) | (with_reducible refine Below.trans ?_ (Below.mono hw1 ?_)) | (with_reducible exact hw2.size) | (with_reducible exact hw1.size) | omega | (simp <;> omega) | (simp <;> (have s := hw2.size; omega)) | (simp <;> (have s := hw1.size; omega)) | (have s0 := hw2.size; (try simp at s0); have s1 := hw1.size; (try simp at s1); (try simp); omega))
  · have c1 := fun W : World => isKick_any k W false (decide_eq_false hk).symm
    clear hk
    go_enter Tryz.func27, Tryz.ntmps27
    go_wp2_with (first | ((with_reducible refine (c1 _).mono ?_); clear c1; rintro e w1 ⟨rfl, hw1⟩; have hc1 := Tail.cells hw1; have s1 := hw1.size; (try simp at s1); (try have z1_0 : w.heap.size < w1.heap.size := (by omega)); (try have z1_1 : w.heap.size + 1 < w1.heap.size := (by omega)); clear s1))
    refine bodyPost_ret (v := .tuple #[.agg #[.int .i64 zero.a, .int .i64 zero.b, .int .i64 zero.c, .int .i64 zero.d, .int .i64 zero.n], .int .i64 1]) ?_ rfl ⟨rfl, ?_⟩
    · simp [results, Tryz.results27, go_sem, hc1, zero, z1_0, z1_1]
    · repeat (first | (with_reducible exact Below.refl _ _) | (with_reducible refine Below.setCell ?_ ?_ _) | (with_reducible refine Below.drew ?_) | (with_reducible refine Below.alloc ?_ ?_ _) | (with_reducible refine Below.trans ?_ (Below.mono hw1 ?_)) | (with_reducible exact hw1.size) | omega | (simp <;> omega) | (simp <;> (have s := hw1.size; omega)) | (have s0 := hw1.size; (try simp at s0); (try simp); omega))
set_option maxHeartbeats 1600000 in
theorem refIsKick_any (k : Kk) (w : World) (r : Bool) (h : r = decide (IsK k)) : Calls Tryz.prog 64 #[.agg #[.int .i64 k.a, .int .i64 k.b, .int .i64 k.c]] w fun e w' => e = .returned (.bool r) ∧ Below w.heap.size w w' := by
  have yes := fun (n : Int) (hn : IsN n) (W : World) => within6_any n 0 7 W true (.inl ⟨hn.1, hn.2, rfl⟩)
  have no := fun (n : Int) (hn : ¬ IsN n) (W : World) => within6_any n 0 7 W false (.inr ⟨hn, rfl⟩)
  by_cases ha : IsN k.a
  · have c1 := yes _ ha
    by_cases hb : IsN k.b
    · have c2 := yes _ hb
      by_cases hc : IsN k.c
      · have c3 := yes _ hc
        obtain rfl : r = true := by rw [h]; exact decide_eq_true ⟨ha, hb, hc⟩
        clear h ha hb hc yes no
        go_enter Tryz.func64, Tryz.ntmps64
        go_wp2_with (first | (with_reducible refine (c1 _).mono ?_; clear c1; rintro e w1 ⟨rfl, rfl⟩) | (with_reducible refine (c2 _).mono ?_; clear c2; rintro e w1 ⟨rfl, rfl⟩) | (with_reducible refine (c3 _).mono ?_; clear c3; rintro e w1 ⟨rfl, rfl⟩))
        go_ret
        exact ⟨rfl, by repeat (first | (with_reducible exact Below.refl _ _) | (with_reducible refine Below.setCell ?_ ?_ _) | (with_reducible refine Below.drew ?_) | (with_reducible refine Below.alloc ?_ ?_ _) | omega | (simp <;> omega))⟩
      · have c3 := no _ hc
        obtain rfl : r = false := by rw [h]; exact decide_eq_false fun q => hc q.2.2
        clear h ha hb hc yes no
        go_enter Tryz.func64, Tryz.ntmps64
        go_wp2_with (first | (with_reducible refine (c1 _).mono ?_; clear c1; rintro e w1 ⟨rfl, rfl⟩) | (with_reducible refine (c2 _).mono ?_; clear c2; rintro e w1 ⟨rfl, rfl⟩) | (with_reducible refine (c3 _).mono ?_; clear c3; rintro e w1 ⟨rfl, rfl⟩))
        go_ret
        exact ⟨rfl, by repeat (first | (with_reducible exact Below.refl _ _) | (with_reducible refine Below.setCell ?_ ?_ _) | (with_reducible refine Below.drew ?_) | (with_reducible refine Below.alloc ?_ ?_ _) | omega | (simp <;> omega))⟩
    · have c2 := no _ hb
      obtain rfl : r = false := by rw [h]; exact decide_eq_false fun q => hb q.2.1
      clear h ha hb yes no
      go_enter Tryz.func64, Tryz.ntmps64
      go_wp2_with (first | (with_reducible refine (c1 _).mono ?_; clear c1; rintro e w1 ⟨rfl, rfl⟩) | (with_reducible refine (c2 _).mono ?_; clear c2; rintro e w1 ⟨rfl, rfl⟩))
      go_ret
      exact ⟨rfl, by repeat (first | (with_reducible exact Below.refl _ _) | (with_reducible refine Below.setCell ?_ ?_ _) | (with_reducible refine Below.drew ?_) | (with_reducible refine Below.alloc ?_ ?_ _) | omega | (simp <;> omega))⟩
  · have c1 := no _ ha
    obtain rfl : r = false := by rw [h]; exact decide_eq_false fun q => ha q.1
    clear h ha yes no
    go_enter Tryz.func64, Tryz.ntmps64
    go_wp2_with (with_reducible refine (c1 _).mono ?_; clear c1; rintro e w1 ⟨rfl, rfl⟩)
    go_ret
    exact ⟨rfl, by repeat (first | (with_reducible exact Below.refl _ _) | (with_reducible refine Below.setCell ?_ ?_ _) | (with_reducible refine Below.drew ?_) | (with_reducible refine Below.alloc ?_ ?_ _) | omega | (simp <;> omega))⟩
set_option maxHeartbeats 800000 in
theorem refCenter_any (n : Int) (w : World) : Calls Tryz.prog 76 #[.int .i64 n] w fun e w' => e = .returned (.int .i64 (ctr n)) ∧ Below w.heap.size w w' := by
  obtain ⟨h1, h2⟩ := trn_rng n
  have h3 : 0 ≤ n.tmod 8 + 8 := by omega
  have h4 : IsN ((n.tmod 8 + 8) % 8) := ⟨by omega, by omega⟩
  have e := trn_eq n
  have e2 : ctr n = ctr ((n.tmod 8 + 8) % 8) := by unfold ctr; rw [e]; simp only [Int.emod_emod]
  rw [e2]
  clear e e2
  rcases isN_cases h4 with h | h | h | h | h | h | h | h
  all_goals
    rw [h]
    go_enter Tryz.func76, Tryz.ntmps76
    go_wp2
    go_ret
    exact ⟨rfl, by repeat (first | (with_reducible exact Below.refl _ _) | (with_reducible refine Below.setCell ?_ ?_ _) | (with_reducible refine Below.drew ?_) | (with_reducible refine Below.alloc ?_ ?_ _) | omega | (simp <;> omega))⟩
set_option maxHeartbeats 800000 in
theorem side_any (n : Int) (w : World) (hn : IsN n) : Calls Tryz.prog 92 #[.int .i64 n] w fun e w' => e = .returned (.int .i64 (sd n)) ∧ Below w.heap.size w w' := by
  rcases isN_cases hn with rfl | rfl | rfl | rfl | rfl | rfl | rfl | rfl
  all_goals
    clear hn
    go_enter Tryz.func92, Tryz.ntmps92
    go_wp2
    go_ret
    exact ⟨rfl, by repeat (first | (with_reducible exact Below.refl _ _) | (with_reducible refine Below.setCell ?_ ?_ _) | (with_reducible refine Below.drew ?_) | (with_reducible refine Below.alloc ?_ ?_ _) | omega | (simp <;> omega))⟩
set_option maxHeartbeats 1600000 in
theorem refTurner_any (k : Kk) (w : World) (hk : IsK k) : Calls Tryz.prog 68 #[.agg #[.int .i64 k.a, .int .i64 k.b, .int .i64 k.c]] w fun e w' => e = .returned (.agg #[.int .i64 (turn k).a, .int .i64 (turn k).b, .int .i64 (turn k).c, .int .i64 (turn k).d, .int .i64 (turn k).n]) ∧ Below w.heap.size w w' := by
  have c1 := fun W : World => side_any k.a W hk.1
  have c2 := fun W : World => side_any k.b W hk.2.1
  have c3 := fun W : World => side_any k.c W hk.2.2
  have c4 := fun W : World => refOne_any W
  clear hk
  rw [tS_turn]
  generalize sd k.a = a at *
  generalize sd k.b = b at *
  generalize sd k.c = c at *
  have kc := @Tail.cell_re
  have kc1 : ∀ (W : World) (o : Obj) (d : Nat) (os : Array Obj) (a : Addr), a.block ≤ W.heap.size → (Sort.grow (redrawn (W.alloc o) d) os).cell? a = (W.alloc o).cell? a := fun W o d os a h => Tail.cell_re (W.alloc o) d os a (Nat.lt_of_le_of_lt h (by simp))
  rcases tS_cases a b c with ⟨⟨h1, h2, h3⟩, h⟩ | ⟨⟨h1, h2, rfl⟩, h⟩ | ⟨⟨h1, rfl⟩, h⟩ | ⟨⟨rfl, h2⟩, h⟩ | ⟨⟨rfl, rfl, h3⟩, h⟩ | ⟨⟨rfl, rfl, rfl⟩, h⟩
  rotate_right
  · rw [h]
    clear h
    go_enter Tryz.func68, Tryz.ntmps68
    go_wp2
    refine Tail.region_below (by kernel_rfl) (by kernel_rfl) ?_
    repeat (go_big_quiet_step (first | (with_reducible exact Calls.regrown_of (c1 _)) | (with_reducible exact Calls.regrown_of (c2 _)) | (with_reducible exact Calls.regrown_of (c3 _))))
    refine wpQuiet_nil ?_
    intro w1 hw1
    have hc1 := Tail.cells hw1
    have z1 := Nat.lt_of_lt_of_le (n := w.heap.size + 1) (by simp <;> omega) hw1.size
    go_wp2_with ((with_reducible refine (c4 _).mono ?_); clear c4; rintro e w2 ⟨rfl, hw2⟩; have hc2 := Tail.cells hw2; have z2 := Nat.lt_of_lt_of_le z1 hw2.size)
    refine bodyPost_ret (v := .agg #[.int .i64 one.a, .int .i64 one.b, .int .i64 one.c, .int .i64 one.d, .int .i64 one.n]) ?_ rfl ⟨rfl, ?_⟩
    · simp [results, Tryz.results68, go_sem, hc1, hc2, z1, z2]
    · repeat (first | (with_reducible exact Below.refl _ _) | (with_reducible refine Below.setCell ?_ ?_ _) | (with_reducible refine Below.drew ?_) | (with_reducible refine Below.alloc ?_ ?_ _) | (with_reducible refine Below.trans ?_ (Below.mono hw2 ?_)) | (with_reducible refine Below.trans ?_ (Below.mono hw1 ?_)) | (with_reducible exact hw2.size) | (with_reducible exact hw1.size) | omega | (simp <;> omega) | (simp <;> (have s := hw2.size; omega)) | (simp <;> (have s := hw1.size; omega)) | (have s0 := hw2.size; (try simp at s0); have s1 := hw1.size; (try simp at s1); (try simp); omega))
  all_goals
    rw [h]
    clear h
    go_enter Tryz.func68, Tryz.ntmps68
    go_wp2
    refine Tail.region_below (by kernel_rfl) (by kernel_rfl) ?_
    repeat (go_big_quiet_step (first | (with_reducible exact Calls.regrown_of (c1 _)) | (with_reducible exact Calls.regrown_of (c2 _)) | (with_reducible exact Calls.regrown_of (c3 _))))
    refine wpQuiet_nil ?_
    intro w1 hw1
    have hc1 := Tail.cells hw1
    have z1 := Nat.lt_of_lt_of_le (n := w.heap.size + 1) (by simp <;> omega) hw1.size
    go_wp2
    refine bodyPost_ret (v := _) (by simp [results, Tryz.results68, go_sem, hc1, z1]; try rfl) rfl ⟨rfl, ?_⟩
    repeat (first | (with_reducible exact Below.refl _ _) | (with_reducible refine Below.setCell ?_ ?_ _) | (with_reducible refine Below.drew ?_) | (with_reducible refine Below.alloc ?_ ?_ _) | (with_reducible refine Below.trans ?_ (Below.mono hw1 ?_)) | (with_reducible exact hw1.size) | omega | (simp <;> omega) | (simp <;> (have s := hw1.size; omega)) | (have s0 := hw1.size; (try simp at s0); (try simp); omega))
end Go.Proofs.YtilbhcjnkmeecaaGreat
