/- Paths are compared without a trace in memory; the order of terms by their paths.
Conditions: those written at each theorem. -/
import Derived.Test.YtjidbajcnomceaaGreatRowsC
import Derived.Test.YtjidbajcnomceaaGreatLoopA
import Derived.Shelf.SlSortCmp.Insertion
namespace Go.Proofs.YtjidbajcnomceaaGreat
set_option linter.unusedVariables false
set_option linter.unusedSimpArgs false
set_option maxRecDepth 1000000
open Go.RowKit
open Um Tm Lm

theorem isNaN_same (x : Int) (w : World) : Calls Tryz.prog 156 #[.int .i64 x] w fun e w' => e = .returned (.bool false) ∧ w = w' := by
  go_enter Tryz.func156, Tryz.ntmps156
  go_wp2
  go_ret
  exact ⟨by simp, rfl⟩
theorem cmpInt_same (x y : Int) (w : World) : Calls Tryz.prog 136 #[.int .i64 x, .int .i64 y] w fun e w' => e = .returned (.int .i64 (cmpI x y)) ∧ w = w' := by
  have c1 := fun (W : World) => isNaN_same x W
  have c2 := fun (W : World) => isNaN_same y W
  unfold cmpI
  by_cases h1 : x < y
  · rw [if_pos h1]
    go_enter Tryz.func136, Tryz.ntmps136
    go_wp2_with (first | ((with_reducible refine (c1 _).mono ?_); clear c1; rintro e w1 ⟨rfl, rfl⟩) | ((with_reducible refine (c2 _).mono ?_); clear c2; rintro e w2 ⟨rfl, rfl⟩))
    go_ret
    exact ⟨rfl, rfl⟩
  · rw [if_neg h1]
    by_cases h2 : y < x
    · rw [if_pos h2]
      go_enter Tryz.func136, Tryz.ntmps136
      go_wp2_with (first | ((with_reducible refine (c1 _).mono ?_); clear c1; rintro e w1 ⟨rfl, rfl⟩) | ((with_reducible refine (c2 _).mono ?_); clear c2; rintro e w2 ⟨rfl, rfl⟩))
      go_ret
      exact ⟨rfl, rfl⟩
    · rw [if_neg h2]
      go_enter Tryz.func136, Tryz.ntmps136
      go_wp2_with (first | ((with_reducible refine (c1 _).mono ?_); clear c1; rintro e w1 ⟨rfl, rfl⟩) | ((with_reducible refine (c2 _).mono ?_); clear c2; rintro e w2 ⟨rfl, rfl⟩))
      go_ret
      exact ⟨rfl, rfl⟩

set_option maxHeartbeats 1600000 in
theorem compare_same (a1 a2 : Option Addr) (c1 c2 : Nat) (l m : List Int) (w : World) (h1 : LiesOI w a1 l) (h2 : LiesOI w a2 m) (n1 : l.length ≤ 1000000) (n2 : m.length ≤ 1000000) : Calls Tryz.prog 115 #[.slice a1 l.length c1, .slice a2 m.length c2] w fun e w' => e = .returned (.int .i64 (cmpL l m)) ∧ w = w' := by
  have cC := cmpInt_same
  have H1 := Lib.hid h1
  have H2 := Lib.hid h2
  have hr := cmpL_rng l m
  obtain ⟨r, hR⟩ : ∃ r, r = cmpL l m := ⟨_, rfl⟩
  rw [← hR] at hr ⊢
  have HR0 : Hid (r = cmpL (l.drop 0) (m.drop 0)) := Lib.hid (by simpa using hR)
  clear h1 h2 hR hr
  go_enter Tryz.func115, Tryz.ntmps115
  go_wp2
  go_loop [5, 6, 7, 8, 11] (fun _ _ _ _ q => ∃ k : Nat, k ≤ l.length ∧ k ≤ m.length ∧ q = .int .i64 k ∧ Hid (r = cmpL (l.drop k) (m.drop k))) (fun _ _ _ _ q => l.length - (intOf q).toNat)
  case atStart => exact ⟨0, by omega, by omega, rfl, HR0⟩
  case round =>
    obtain ⟨k, k1, k2, rfl, HR⟩ := hrel
    clear HR0
    by_cases hlt : k < l.length
    · have i1 : (k : Int) < (l.length : Int) := by omega
      have hx : l[k]? = some l[k] := List.getElem?_eq_getElem hlt
      obtain ⟨b1, o1, rfl, hl1⟩ : ∃ b o, a1 = some ⟨b, o, none⟩ ∧ LiesI w b o l := by
        rcases H1.out with h | h
        · subst h; simp at hlt
        · exact h
      have x0 := hl1 k _ hx
      by_cases hlt2 : k < m.length
      · have i2 : ¬ (m.length : Int) ≤ (k : Int) := by omega
        have i3 : (k : Int) < (m.length : Int) := by omega
        have hy : m[k]? = some m[k] := List.getElem?_eq_getElem hlt2
        obtain ⟨b2, o2, rfl, hl2⟩ : ∃ b o, a2 = some ⟨b, o, none⟩ ∧ LiesI w b o m := by
          rcases H2.out with h | h
          · subst h; simp at hlt2
          · exact h
        have y0 := hl2 k _ hy
        have hd := cmpL_drop l m k hlt hlt2
        generalize l[k] = x at *
        generalize m[k] = y at *
        have HD := Lib.hid hd
        clear hl1 hl2 hd hx hy
        by_cases hc : cmpI x y = 0
        · have HC := Lib.hid hc
          have cC' := fun W : World => cC x y W
          rw [hc] at cC'
          clear hc cC
          go_wp2_with ((with_reducible refine (cC' _).mono ?_); rintro e w1 ⟨rfl, rfl⟩)
          go_round
          case rel => exact ⟨k + 1, by omega, by omega, by go_num, Lib.hid (by rw [HR.out, HD.out, if_pos HC.out])⟩
          case measure => simp [intOf]; omega
        · have hrng := cmpI_rng x y
          have e2 : r = cmpI x y := by rw [HR.out, HD.out, if_neg hc]
          have cC' := fun W : World => cC x y W
          rw [← e2] at cC' hrng hc
          have q1 : (r != 0) = true := by simpa using hc
          clear e2 hrng hc cC
          go_wp2_with ((with_reducible refine (cC' _).mono ?_); rintro e w1 ⟨rfl, rfl⟩)
          go_ret
          exact ⟨rfl, rfl⟩
      · have i2 : (m.length : Int) ≤ (k : Int) := by omega
        have e2 : r = 1 := by rw [HR.out]; exact cmpL_over l m k hlt (by omega)
        subst e2
        clear hl1 hx
        go_wp2
        go_ret
        exact ⟨rfl, rfl⟩
    · obtain rfl : k = l.length := by omega
      by_cases hlt2 : l.length < m.length
      · have e2 : r = -1 := by rw [HR.out, cmpL_end l m _ (Nat.le_refl _), if_pos hlt2]
        subst e2
        go_wp2
        go_ret
        exact ⟨rfl, rfl⟩
      · have e2 : r = 0 := by rw [HR.out, cmpL_end l m _ (Nat.le_refl _), if_neg hlt2]
        subst e2
        go_wp2
        go_ret
        exact ⟨rfl, rfl⟩

theorem closure_lays (e f : E) (w : World) (h1 : LiesOI w e.a e.p) (h2 : LiesOI w f.a f.p) (n1 : e.p.length ≤ 1000) (n2 : f.p.length ≤ 1000) : Calls Tryz.prog 114 #[.agg (ec e).toArray, .agg (ec f).toArray] w fun r w' => r = .returned (.int .i64 (cmpL e.p f.p)) ∧ ∃ q os', w' = Sort.grow (w.drewN q) os' := by
  obtain ⟨c, p, a, k⟩ := e
  obtain ⟨d, q, b, m⟩ := f
  simp only at *
  show Calls Tryz.prog 114 #[.agg #[.int .i64 c, .slice a p.length k], .agg #[.int .i64 d, .slice b q.length m]] w _
  have cC := fun W h1 h2 => compare_same a b k m p q W h1 h2 (by omega) (by omega)
  have H1 := Lib.hid h1
  have H2 := Lib.hid h2
  clear h1 h2
  generalize cmpL p q = r at *
  go_enter Tryz.func114, Tryz.ntmps114
  go_wp2_with ((with_reducible refine (cC _ (H1.out.later (by repeat (first | (with_reducible exact Below.refl _ _) | (with_reducible refine Below.setCell ?_ ?_ _) | (with_reducible refine Below.drew ?_) | (with_reducible refine Below.alloc ?_ ?_ _) | omega | (simp <;> omega)))) (H2.out.later (by repeat (first | (with_reducible exact Below.refl _ _) | (with_reducible refine Below.setCell ?_ ?_ _) | (with_reducible refine Below.drew ?_) | (with_reducible refine Below.alloc ?_ ?_ _) | omega | (simp <;> omega))))).mono ?_); rintro e w1 ⟨rfl, rfl⟩)
  go_ret
  exact ⟨rfl, 0, _, by rw [Sort.alloc_eq_grow, Sort.alloc_eq_grow, Sort.grow_grow]; rfl⟩
end Go.Proofs.YtjidbajcnomceaaGreat
