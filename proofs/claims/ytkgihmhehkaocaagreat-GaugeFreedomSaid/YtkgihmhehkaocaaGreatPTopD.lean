/- The place of the first number that is not 0, as the document's answers find it (great seat).
Conditions: none. -/
import Derived.Test.YtkgihmhehkaocaaGreatRows
import Derived.Test.YtkgihmhehkaocaaGreatChecked
import Derived.WalkKit
import Derived.WalkSpells
import Derived.WalkLawsBesides
import Derived.WalkMore
import Derived.Scope
import Derived.ScopeJumps
import Derived.Lib.Hide
import Derived.BigQuiet
import Derived.Deep.DeepFit
import Derived.Test.YtkgihmhehkaocaaGreatPGauC
import Derived.Test.YtkgihmhehkaocaaGreatPIBox
import Derived.Test.YtkgihmhehkaocaaGreatPTopA
import Derived.Test.YtkgihmhehkaocaaGreatPGauF
import Derived.Maps.AppendAt
import Derived.Test.YtkgihmhehkaocaaGreatPGauG
import Derived.Test.YtkgihmhehkaocaaGreatPGauE
import Derived.Test.YtkgihmhehkaocaaGreatPGauD
import Derived.Test.YtkgihmhehkaocaaGreatPHkM
import Derived.JoinedOf
import Derived.KernelRfl
import Derived.Test.YtkgihmhehkaocaaGreatPInts
import Derived.Test.YtkgihmhehkaocaaGreatPKnown2
import Derived.Test.YtkgihmhehkaocaaGreatPRows5
namespace Go.Proofs.YtkgihmhehkaocaaGreat
set_option linter.unusedVariables false
set_option linter.unusedSimpArgs false
set_option maxRecDepth 1000000
open Go.RowKit

def el4 (a b c d : Int) (k : Nat) : Int := if k = 0 then a else if k = 1 then b else if k = 2 then c else d
def fst4 (a b c d : Int) : Nat := if a ≠ 0 then 0 else if b ≠ 0 then 1 else if c ≠ 0 then 2 else if d ≠ 0 then 3 else 4
theorem fst4_le (a b c d : Int) : fst4 a b c d ≤ 4 := by
  unfold fst4
  split
  · omega
  split
  · omega
  split
  · omega
  split <;> omega
theorem fst4_hit {a b c d : Int} {i : Nat} (h : i ≤ fst4 a b c d) (hi : i < 4) (hv : el4 a b c d i ≠ 0) : fst4 a b c d = i := by
  unfold fst4 el4 at *
  rcases (by omega : i = 0 ∨ i = 1 ∨ i = 2 ∨ i = 3) with rfl | rfl | rfl | rfl
  · simp at hv; simp [hv]
  · simp at hv
    by_cases a0 : a = 0 <;> simp [a0, hv] at h ⊢
  · simp at hv
    by_cases a0 : a = 0 <;> by_cases b0 : b = 0 <;> simp [a0, b0, hv] at h ⊢
  · simp at hv
    by_cases a0 : a = 0 <;> by_cases b0 : b = 0 <;> by_cases c0 : c = 0 <;> simp [a0, b0, c0, hv] at h ⊢
theorem fst4_next {a b c d : Int} {i : Nat} (h : i ≤ fst4 a b c d) (hi : i < 4) (hv : el4 a b c d i = 0) : i + 1 ≤ fst4 a b c d := by
  refine Classical.byContradiction fun hn => ?_
  have e : fst4 a b c d = i := by omega
  unfold fst4 el4 at *
  rcases (by omega : i = 0 ∨ i = 1 ∨ i = 2 ∨ i = 3) with rfl | rfl | rfl | rfl
  all_goals
    simp at hv
    by_cases a0 : a = 0 <;> by_cases b0 : b = 0 <;> by_cases c0 : c = 0 <;> by_cases d0 : d = 0 <;> simp_all
set_option maxHeartbeats 1600000 in
theorem first4_any (a b c d : Int) (w : World) : Calls Tryz.prog 83 #[.agg #[.int .i64 a, .int .i64 b, .int .i64 c, .int .i64 d]] w fun e w' => e = .returned (.int .i64 (fst4 a b c d : Int)) ∧ Below w.heap.size w w' := by
  go_enter Tryz.func83, Tryz.ntmps83
  go_wp2
  go_loopw [3] (fun q wr => ∃ i : Nat, i ≤ fst4 a b c d ∧ q = .int .i64 i ∧ Hid (∀ j, j < 4 → wr.cell? ⟨w.heap.size, j, none⟩ = some (.int .i64 (el4 a b c d j))) ∧ Hid (Below w.heap.size w wr)) (fun q _ => 4 - (intOf q).toNat)
  case atStart =>
    refine ⟨0, by omega, rfl, Lib.hid ?_, Lib.hid ?_⟩
    · intro j hj
      rcases (by omega : j = 0 ∨ j = 1 ∨ j = 2 ∨ j = 3) with rfl | rfl | rfl | rfl <;> simp [go_sem, el4]
    · repeat (first | (with_reducible exact Below.refl _ _) | (with_reducible refine Below.setCell ?_ ?_ _) | (with_reducible refine Below.drew ?_) | (with_reducible refine Below.alloc ?_ ?_ _) | omega | (simp <;> omega))
  case round =>
    obtain ⟨i, hi, rfl, YA, YW⟩ := hrel
    have h4 := fst4_le a b c d
    by_cases hlt : i < 4
    · have ii : (i : Int) < 4 := by omega
      have x0 := YA.out i hlt
      by_cases hv : el4 a b c d i = 0
      · have hn := fst4_next hi hlt hv
        rw [hv] at x0
        clear hv
        go_wp2
        exact ⟨⟨i + 1, hn, by go_num, YA, YW⟩, by simp [intOf]; omega⟩
      · have he := fst4_hit hi hlt hv
        have tv : (el4 a b c d i != 0) = true := by simpa using hv
        clear hv
        generalize el4 a b c d i = v at *
        have HE := Lib.hid he
        clear he hi h4
        go_wp2
        go_ret
        rw [HE.out]
        exact ⟨rfl, YW.out⟩
    · have he : fst4 a b c d = 4 := by omega
      obtain rfl : i = 4 := by omega
      have HE := Lib.hid he
      clear he hi h4
      go_wp2
      go_ret
      rw [HE.out]
      exact ⟨rfl, YW.out⟩
end Go.Proofs.YtkgihmhehkaocaaGreat

/- A row divided by the greatest common divisor of its numbers, as the document's answers make it (great seat).
Conditions: the bounds written at each theorem. -/
namespace Go.Proofs.YtkgihmhehkaocaaGreat
set_option linter.unusedVariables false
set_option linter.unusedSimpArgs false
set_option maxRecDepth 1000000
open Go.RowKit
open Um Tm

theorem gc_dl (m n : Int) : gc m n ∣ m := Int.ofNat_dvd_left.2 (Nat.gcd_dvd_left _ _)
theorem gc_dr (m n : Int) : gc m n ∣ n := Int.ofNat_dvd_left.2 (Nat.gcd_dvd_right _ _)
theorem gc_gr {d m n : Int} (h1 : d ∣ m) (h2 : d ∣ n) : d ∣ gc m n := Int.natAbs_dvd.1 (Int.ofNat_dvd.2 (Nat.dvd_gcd (Int.natAbs_dvd_natAbs.2 h1) (Int.natAbs_dvd_natAbs.2 h2)))
theorem B4.in60 {x : Q} {m : Int} (h : B4 x m) (hm : m ≤ 1152921504606846976) : (-4611686018427387904 ≤ x.a ∧ x.a ≤ 4611686018427387904) ∧ (-4611686018427387904 ≤ x.b ∧ x.b ≤ 4611686018427387904) ∧ (-4611686018427387904 ≤ x.c ∧ x.c ≤ 4611686018427387904) ∧ (-4611686018427387904 ≤ x.d ∧ x.d ≤ 4611686018427387904) := by
  obtain ⟨h1, h2, h3, h4⟩ := h
  omega
set_option maxHeartbeats 3200000 in
theorem small_ne (x : Q) (m : Int) (w : World) (hm : 0 ≤ m ∧ m ≤ 1152921504606846976) (hx : B4 x m) (hne : ¬ Z4 x) : Calls Tryz.prog 84 #[.agg #[.int .i64 x.a, .int .i64 x.b, .int .i64 x.c, .int .i64 x.d]] w fun e w' => (∃ (y : Q) (k : Int), e = .returned (.agg #[.int .i64 y.a, .int .i64 y.b, .int .i64 y.c, .int .i64 y.d]) ∧ k ≠ 0 ∧ (∀ j, j < 4 → cmp j x = k * cmp j y) ∧ BP y m) ∧ Below w.heap.size w w' := by
  obtain ⟨ha, hb, hc, hd⟩ := hx.in60 hm.2
  have f1 := gc_fit2 _ _ ha hb
  have f2 := gc_fit2 _ _ hc hd
  have c1 := fun W : World => gcd4_any _ _ W ha hb
  have c2 := fun W : World => gcd4_any _ _ W hc hd
  have c3 := fun W : World => gcd4_any _ _ W f1 f2
  have d0 : ∀ j, j < 4 → gc (gc x.a x.b) (gc x.c x.d) ∣ cmp j x := fun j hj => by
    rcases cases4 hj with rfl | rfl | rfl | rfl
    · exact Int.dvd_trans (gc_dl _ _) (gc_dl _ _)
    · exact Int.dvd_trans (gc_dl _ _) (gc_dr _ _)
    · exact Int.dvd_trans (gc_dr _ _) (gc_dl _ _)
    · exact Int.dvd_trans (gc_dr _ _) (gc_dr _ _)
  have dg : ∀ d : Int, (∀ j, j < 4 → d ∣ cmp j x) → d ∣ gc (gc x.a x.b) (gc x.c x.d) := fun d h => gc_gr (gc_gr (h 0 (by decide)) (h 1 (by decide))) (gc_gr (h 2 (by decide)) (h 3 (by decide)))
  have gnn := gc_nonneg (gc x.a x.b) (gc x.c x.d)
  have f3 := gc_fit2 _ _ f1 f2
  generalize gc (gc x.a x.b) (gc x.c x.d) = g0 at *
  have hg0 : g0 ≠ 0 := fun e => by
    subst e
    have h0 := fun j (hj : j < 4) => Int.zero_dvd.1 (d0 j hj)
    exact hne ⟨h0 0 (by decide), h0 1 (by decide), h0 2 (by decide), h0 3 (by decide)⟩
  have gp : 0 < g0 := by omega
  have hg0' : (g0 == 0) = false := by simpa using hg0
  have HD := Lib.hid d0
  have HDG := Lib.hid dg
  have HX := Lib.hid hx
  have HM := Lib.hid hm
  have HGN := Lib.hid hg0
  have kc := @Tail.cell_re
  clear hx hm hne d0 dg f1 f2 ha hb hc hd gnn hg0
  go_enter Tryz.func84, Tryz.ntmps84
  go_wp2
  refine Tail.region_below (by kernel_rfl) (by kernel_rfl) ?_
  repeat (go_big_quiet_step (first | (with_reducible exact Calls.regrown_of (c1 _)) | (with_reducible exact Calls.regrown_of (c2 _)) | (with_reducible exact Calls.regrown_of (c3 _))))
  refine wpQuiet_nil ?_
  intro w1 hw1
  have hc := Tail.cells hw1
  have W0P : IBox w1 w.heap.size [x.a, x.b, x.c, x.d] := by
    refine IBox.below (w := (w.alloc (.cells #[.int .i64 x.a, .int .i64 x.b, .int .i64 x.c, .int .i64 x.d] 31)).alloc (.cells #[.int .i64 0, .int .i64 0, .int .i64 0, .int .i64 0] 31)) ⟨fun i v hv => by
      match i, hv with
      | 0, hv => simp at hv; subst hv; simp [go_sem]
      | 1, hv => simp at hv; subst hv; simp [go_sem]
      | 2, hv => simp at hv; subst hv; simp [go_sem]
      | 3, hv => simp at hv; subst hv; simp [go_sem]
      | n + 4, hv => simp at hv, fun j => by simp [go_sem], by simp <;> omega⟩ hw1 (by simp <;> omega)
  have W0R : IBox w1 (w.heap.size + 1) [0, 0, 0, 0] := by
    refine IBox.below (w := (w.alloc (.cells #[.int .i64 x.a, .int .i64 x.b, .int .i64 x.c, .int .i64 x.d] 31)).alloc (.cells #[.int .i64 0, .int .i64 0, .int .i64 0, .int .i64 0] 31)) ⟨fun i v hv => by
      match i, hv with
      | 0, hv => simp at hv; subst hv; simp [go_sem]
      | 1, hv => simp at hv; subst hv; simp [go_sem]
      | 2, hv => simp at hv; subst hv; simp [go_sem]
      | 3, hv => simp at hv; subst hv; simp [go_sem]
      | n + 4, hv => simp at hv, fun j => by simp [go_sem], by simp⟩ hw1 (by simp <;> omega)
  have hb0 : Below w.heap.size w w1 := by repeat (first | (with_reducible exact Below.refl _ _) | (with_reducible refine Below.setCell ?_ ?_ _) | (with_reducible refine Below.drew ?_) | (with_reducible refine Below.alloc ?_ ?_ _) | (with_reducible refine Below.trans ?_ (Below.mono hw1 ?_)) | (with_reducible exact hw1.size) | omega | (simp <;> omega) | (simp <;> (have s := hw1.size; omega)) | (have s0 := hw1.size; (try simp at s0); (try simp); omega))
  have ws := hb0.size
  have P0 := Lib.hid W0P
  have R0 := Lib.hid W0R
  have B0 := Lib.hid hb0
  clear c1 c2 c3 W0P W0R hb0 hc hw1 kc
  go_wp2
  go_loopw [4] (fun q wr => ∃ (k : Nat) (l : List Int), k ≤ 4 ∧ q = .int .i64 k ∧ Hid (l.length = 4) ∧ Hid (∀ j, j < k → cmp j x = g0 * l.getD j 0) ∧ Hid (∀ j, k ≤ j → j < 4 → l.getD j 0 = cmp j x) ∧ Hid (∀ j, j < 4 → -m ≤ l.getD j 0 ∧ l.getD j 0 ≤ m) ∧ Hid (IBox wr w.heap.size l) ∧ Hid (IBox wr (w.heap.size + 1) [0, 0, 0, 0]) ∧ Hid (Below w.heap.size w wr)) (fun q _ => 4 - (intOf q).toNat)
  case atStart => exact ⟨0, [x.a, x.b, x.c, x.d], by omega, rfl, Lib.hid rfl, Lib.hid (fun j hj => by omega), Lib.hid (fun j _ hj => by rcases cases4 hj with rfl | rfl | rfl | rfl <;> rfl), Lib.hid (fun j hj => by have hh := HX.out.cmp hj; rcases cases4 hj with rfl | rfl | rfl | rfl <;> exact hh), P0, R0, B0⟩
  case round =>
    obtain ⟨k, l, hk, rfl, HL, HA, HE, HBd, HP, HR, HB⟩ := hrel
    clear P0 R0 B0
    by_cases hlt : k < 4
    · have ik : (k : Int) < 4 := by omega
      have hkl : k < l.length := by rw [HL.out]; exact hlt
      have c0 := HP.out.at (i := k) (x := l.getD k 0) (by rw [List.getD_eq_getElem?_getD, List.getElem?_eq_getElem hkl]; rfl)
      have fp := HP.out.free
      have lp := HP.out.lt
      have hv := HE.out k (Nat.le_refl _) hlt
      obtain ⟨y, hy⟩ := HD.out k hlt
      have hq : (l.getD k 0).tdiv g0 = y := by rw [hv, hy]; exact Int.mul_tdiv_cancel_left _ HGN.out
      have hyb : -m ≤ y ∧ y ≤ m := by
        have h1 := HX.out.cmp hlt
        rw [hy] at h1
        have h2 : y.natAbs ≤ (g0 * y).natAbs := by
          rw [Int.natAbs_mul]
          exact Nat.le_mul_of_pos_left _ (Int.natAbs_pos.2 HGN.out)
        generalize g0 * y = z at *
        omega
      have mm := HM.out
      have ew : IntKind.i64.wrap ((l.getD k 0).tdiv g0) = y := by rw [hq]; exact IntWalk.i64_in _ (by omega)
      have HP2 := Lib.hid (HP.out.put k hkl y)
      have HR2 := Lib.hid (HR.out.other (b := w.heap.size) (o := k) (v := .int .i64 y) (by omega))
      have HB2 := Lib.hid (HB.out.setCell (p := ⟨w.heap.size, k, none⟩) (Nat.le_refl _) (.int .i64 y))
      have HL2 : Hid ((l.set k y).length = 4) := Lib.hid (by rw [List.length_set]; exact HL.out)
      have HA2 : Hid (∀ j, j < k + 1 → cmp j x = g0 * (l.set k y).getD j 0) := Lib.hid (fun j hj => by
        rw [getD_set _ _ _ _ hkl]
        by_cases h : j = k
        · subst h; rw [if_pos rfl]; exact hy
        · rw [if_neg h]; exact HA.out j (by omega))
      have HE2 : Hid (∀ j, k + 1 ≤ j → j < 4 → (l.set k y).getD j 0 = cmp j x) := Lib.hid (fun j h1 h2 => by
        rw [getD_set _ _ _ _ hkl, if_neg (by omega)]
        exact HE.out j (by omega) h2)
      have HBd2 : Hid (∀ j, j < 4 → -m ≤ (l.set k y).getD j 0 ∧ (l.set k y).getD j 0 ≤ m) := Lib.hid (fun j hj => by
        rw [getD_set _ _ _ _ hkl]
        by_cases h : j = k
        · rw [if_pos h]; exact hyb
        · rw [if_neg h]; exact HBd.out j hj)
      clear hv hy hq hyb mm HP HR HB HL HA HE HBd hkl
      generalize l.getD k 0 = lv at *
      generalize l.set k y = l' at *
      go_wp2
      exact ⟨⟨k + 1, l', by omega, by go_num, HL2, HA2, HE2, HBd2, HP2, HR2, HB2⟩, by simp [intOf]; omega⟩
    · obtain rfl : k = 4 := by omega
      obtain ⟨y0, y1, y2, y3, rfl⟩ : ∃ y0 y1 y2 y3, l = [y0, y1, y2, y3] := by
        match l, HL.out with
        | [a, b, c, d], _ => exact ⟨a, b, c, d, rfl⟩
      have p0 := HP.out.at (i := 0) (x := y0) rfl
      have p1 := HP.out.at (i := 1) (x := y1) rfl
      have p2 := HP.out.at (i := 2) (x := y2) rfl
      have p3 := HP.out.at (i := 3) (x := y3) rfl
      have rf := HR.out.free
      have rl := HR.out.lt
      have r0 := HR.out.at (i := 0) (x := 0) rfl
      have r1 := HR.out.at (i := 1) (x := 0) rfl
      have r2 := HR.out.at (i := 2) (x := 0) rfl
      have r3 := HR.out.at (i := 3) (x := 0) rfl
      have HBB := Lib.hid ((HB.out.grown (grown_setCells (w.heap.size + 1) [.int .i64 y0, .int .i64 y1, .int .i64 y2, .int .i64 y3] 0 wr) HB.out.size (fun j e => by cases e; omega)))
      have HY : Hid (B4 ⟨y0, y1, y2, y3, 0⟩ m) := Lib.hid ⟨HBd.out 0 (by decide), HBd.out 1 (by decide), HBd.out 2 (by decide), HBd.out 3 (by decide)⟩
      have HZ : Hid (∀ j, j < 4 → cmp j x = g0 * cmp j ⟨y0, y1, y2, y3, 0⟩) := Lib.hid (fun j hj => by
        have := HA.out j hj
        rcases cases4 hj with rfl | rfl | rfl | rfl <;> exact this)
      have HPR : Hid (Prm ⟨y0, y1, y2, y3, 0⟩) := Lib.hid (fun d hd => by
        have h1 : g0 * d ∣ g0 := HDG.out (g0 * d) (fun j hj => by
          rw [HZ.out j hj]
          exact Int.mul_dvd_mul_left g0 (hd j hj))
        obtain ⟨z, hz⟩ := h1
        refine ⟨z, ?_⟩
        have h2 : g0 * (d * z) = g0 * 1 := by rw [← Int.mul_assoc, ← hz, Int.mul_one]
        exact (Int.eq_of_mul_eq_mul_left HGN.out h2).symm)
      go_wp2
      refine bodyPost_ret (v := .agg #[.int .i64 (⟨y0, y1, y2, y3, 0⟩ : Q).a, .int .i64 (⟨y0, y1, y2, y3, 0⟩ : Q).b, .int .i64 (⟨y0, y1, y2, y3, 0⟩ : Q).c, .int .i64 (⟨y0, y1, y2, y3, 0⟩ : Q).d]) ?_ rfl ⟨⟨⟨y0, y1, y2, y3, 0⟩, g0, rfl, HGN.out, HZ.out, ⟨HY.out, HPR.out⟩⟩, HBB.out⟩
      simp [results, Tryz.results84, go_sem, r0, r1, r2, r3, rl]
set_option maxHeartbeats 3200000 in
theorem small_z (w : World) : Calls Tryz.prog 84 #[.agg #[.int .i64 0, .int .i64 0, .int .i64 0, .int .i64 0]] w fun e w' => e = .returned (.agg #[.int .i64 0, .int .i64 0, .int .i64 0, .int .i64 0]) ∧ Below w.heap.size w w' := by
  have c1 : ∀ W : World, Calls Tryz.prog 114 #[.int .i64 0, .int .i64 0] W fun e w' => e = .returned (.int .i64 0) ∧ Below W.heap.size W w' := fun W => by
    have := gcd4_any 0 0 W (by decide) (by decide)
    rw [show gc 0 0 = 0 from rfl] at this
    exact this
  have kc := @Tail.cell_re
  go_enter Tryz.func84, Tryz.ntmps84
  go_wp2
  refine Tail.region_below (by kernel_rfl) (by kernel_rfl) ?_
  repeat (go_big_quiet_step (first | (with_reducible exact Calls.regrown_of (c1 _))))
  refine wpQuiet_nil ?_
  intro w1 hw1
  have hc := Tail.cells hw1
  have hz1 := Nat.lt_of_lt_of_le (n := w.heap.size) (by simp <;> omega) hw1.size
  have hz2 := Nat.lt_of_lt_of_le (n := w.heap.size + 1) (by simp <;> omega) hw1.size
  have HB := Lib.hid (show Below w.heap.size w w1 by repeat (first | (with_reducible exact Below.refl _ _) | (with_reducible refine Below.setCell ?_ ?_ _) | (with_reducible refine Below.drew ?_) | (with_reducible refine Below.alloc ?_ ?_ _) | (with_reducible refine Below.trans ?_ (Below.mono hw1 ?_)) | (with_reducible exact hw1.size) | omega | (simp <;> omega) | (simp <;> (have s := hw1.size; omega)) | (have s0 := hw1.size; (try simp at s0); (try simp); omega)))
  clear c1
  go_wp2
  go_loopw [4] (fun q wr => q = .int .i64 0 ∧ wr = w1) (fun _ _ => 0)
  case atStart => exact ⟨rfl, rfl⟩
  case round =>
    obtain ⟨rfl, rfl⟩ := hrel
    go_wp2
    refine bodyPost_ret (v := .agg #[.int .i64 0, .int .i64 0, .int .i64 0, .int .i64 0]) ?_ rfl ⟨rfl, ?_⟩
    · simp [results, Tryz.results84, go_sem, hc, hz2]
    · repeat (first | (with_reducible exact Below.refl _ _) | (with_reducible refine Below.setCell ?_ ?_ _) | (with_reducible refine Below.drew ?_) | (with_reducible refine Below.alloc ?_ ?_ _) | (with_reducible refine Below.trans ?_ (Below.mono HB.out ?_)) | (with_reducible exact HB.out.size) | omega | (simp <;> omega) | (simp <;> (have s := HB.out.size; omega)) | (have s0 := HB.out.size; (try simp at s0); (try simp); omega))
end Go.Proofs.YtkgihmhehkaocaaGreat

/- Bounds of rows that are reduced by one another: mathematics, no Go.
Conditions: those written at each theorem. -/
namespace Go.Proofs.YtkgihmhehkaocaaGreat
set_option linter.unusedVariables false
set_option linter.unusedSimpArgs false
set_option maxRecDepth 1000000
open Um Tm

/-- how large the i-th row may be -/
def bn (i : Nat) : Int := if i = 0 then 8 else if i = 1 then 128 else if i = 2 then 32768 else 1
/-- how large a row is that has been reduced by i rows -/
def rb (i : Nat) : Int := if i = 0 then 8 else if i = 1 then 128 else if i = 2 then 32768 else if i = 3 then 2147483648 else 4294967296
theorem rb_step {i : Nat} (hi : i < 4) : 2 * (rb i * bn i) ≤ rb (i + 1) ∧ 0 ≤ rb i ∧ 0 ≤ bn i := by
  rcases cases4 hi with rfl | rfl | rfl | rfl <;> decide
theorem rb_rng {i : Nat} (hi : i ≤ 4) : 0 ≤ rb i ∧ rb i ≤ 4294967296 := by
  rcases (by omega : i = 0 ∨ i = 1 ∨ i = 2 ∨ i = 3 ∨ i = 4) with rfl | rfl | rfl | rfl | rfl <;> decide
theorem RdL.snoc {R : List Q} {r r1 row r' : Q} (h : RdL R r r1) (h2 : Rd row r1 r') : RdL (R ++ [row]) r r' := by
  induction h with
  | nil r => exact .cons h2 (.nil _)
  | cons h3 _ ih => exact .cons h3 (ih h2)
/-- the rows' bounds -/
def RBd (R : List Q) : Prop := ∀ i r, R[i]? = some r → B4 r (bn i)
/-- what is reduced, before it is divided -/
def rdv (row r : Q) : Q := ⟨r.a * cmp (fstq row) row - row.a * cmp (fstq row) r, r.b * cmp (fstq row) row - row.b * cmp (fstq row) r, r.c * cmp (fstq row) row - row.c * cmp (fstq row) r, r.d * cmp (fstq row) row - row.d * cmp (fstq row) r, 0⟩
theorem rdv_cmp (row r : Q) {k : Nat} (hk : k < 4) : cmp k (rdv row r) = cmp k r * cmp (fstq row) row - cmp k row * cmp (fstq row) r := by
  rcases cases4 hk with rfl | rfl | rfl | rfl <;> rfl
theorem rdv_bnds {row r : Q} {i : Nat} (hi : i < 4) (hr : B4 r (rb i)) (hw : B4 row (bn i)) (hf : fstq row < 4) {k : Nat} (hk : k < 4) : (-(rb i * bn i) ≤ cmp k r * cmp (fstq row) row ∧ cmp k r * cmp (fstq row) row ≤ rb i * bn i) ∧ (-(rb i * bn i) ≤ cmp k row * cmp (fstq row) r ∧ cmp k row * cmp (fstq row) r ≤ rb i * bn i) := by
  obtain ⟨h1, h2, h3⟩ := rb_step hi
  refine ⟨mul_le2 h2 (hr.cmp hk) (hw.cmp hf), ?_⟩
  rw [Int.mul_comm (cmp k row)]
  exact mul_le2 h2 (hr.cmp hf) (hw.cmp hk)
theorem rdv_b4 {row r : Q} {i : Nat} (hi : i < 4) (hr : B4 r (rb i)) (hw : B4 row (bn i)) (hf : fstq row < 4) : B4 (rdv row r) (rb (i + 1)) := by
  have key : ∀ k, k < 4 → -(rb (i + 1)) ≤ cmp k (rdv row r) ∧ cmp k (rdv row r) ≤ rb (i + 1) := fun k hk => by
    rw [rdv_cmp row r hk]
    have := rdv_bnds hi hr hw hf hk
    have := (rb_step hi).1
    omega
  exact ⟨key 0 (by decide), key 1 (by decide), key 2 (by decide), key 3 (by decide)⟩
theorem Ind.four {B : List Q} (h : Ind B) : B.length ≤ 4 := by
  have := dim_up h (R := []) (fun cs hl _ c hc => by rw [List.length_eq_zero_iff.1 hl] at hc; simp at hc) (fun _ _ r hr => by simp at hr)
  simpa using this
/-- a row more, and its bound -/
theorem RBd.add {R : List Q} {r r' : Q} (hE : Ech R) (hB : RBd R) (hr : RdL R r r') (h4 : fstq r' < 4) (hb : B4 r' (rb R.length)) (hp : 0 < R.length → Prm r') : R.length < 4 ∧ RBd (R ++ [r']) := by
  have hE2 : Ech (R ++ [r']) := ⟨fun x hx => by
    rcases List.mem_append.1 hx with hx | hx
    · exact hE.n x hx
    · simp at hx; subst hx; exact h4, List.pairwise_append.2 ⟨hE.p, List.pairwise_singleton _ _, fun a ha b hb => by
      simp at hb; subst hb; exact hr.zero hE a ha⟩⟩
  have hl := hE2.ind.four
  simp at hl
  refine ⟨by omega, fun i x hx => ?_⟩
  rw [List.getElem?_append] at hx
  by_cases h : i < R.length
  · rw [if_pos h] at hx; exact hB i x hx
  · rw [if_neg h] at hx
    obtain ⟨h0, rfl⟩ : i = R.length ∧ r' = x := by
      by_cases h1 : i - R.length = 0
      · rw [h1] at hx; simp at hx; exact ⟨by omega, hx⟩
      · rw [List.getElem?_eq_none (by simp; omega)] at hx; cases hx
    subst h0
    have hk : R.length = 0 ∨ R.length = 1 ∨ R.length = 2 ∨ R.length = 3 := by omega
    by_cases h3 : R.length = 3
    · obtain ⟨r1, r2, r3, rfl⟩ : ∃ r1 r2 r3, R = [r1, r2, r3] := by
        match R, h3 with
        | [a, b, c], _ => exact ⟨a, b, c, rfl⟩
      have z := hr.zero hE
      have z1 := z r1 (by simp)
      have z2 := z r2 (by simp)
      have z3 := z r3 (by simp)
      have n1 := hE.n r1 (by simp)
      have n2 := hE.n r2 (by simp)
      have n3 := hE.n r3 (by simp)
      have p := hE.p
      simp at p
      obtain ⟨⟨p12, p13⟩, p23⟩ := p
      have f2 := fstq_ne n2
      have f3 := fstq_ne n3
      have f4 := fstq_ne h4
      have k12 : fstq r1 ≠ fstq r2 := fun e => f2 (by rw [← e]; exact p12)
      have k13 : fstq r1 ≠ fstq r3 := fun e => f3 (by rw [← e]; exact p13)
      have k23 : fstq r2 ≠ fstq r3 := fun e => f3 (by rw [← e]; exact p23)
      have k14 : fstq r1 ≠ fstq r' := fun e => f4 (by rw [← e]; exact z1)
      have k24 : fstq r2 ≠ fstq r' := fun e => f4 (by rw [← e]; exact z2)
      have k34 : fstq r3 ≠ fstq r' := fun e => f4 (by rw [← e]; exact z3)
      have zz : ∀ j, j < 4 → j ≠ fstq r' → cmp j r' = 0 := fun j hj hne => by
        have : j = fstq r1 ∨ j = fstq r2 ∨ j = fstq r3 := by omega
        rcases this with rfl | rfl | rfl <;> assumption
      have hd := hp (by simp) (cmp (fstq r') r') (fun j hj => by
        by_cases e : j = fstq r'
        · rw [e]; exact Int.dvd_refl _
        · rw [zz j hj e]; exact Int.dvd_zero _)
      have hb1 : -1 ≤ cmp (fstq r') r' ∧ cmp (fstq r') r' ≤ 1 := by
        have := Int.natAbs_dvd_natAbs.2 hd
        have := Nat.le_of_dvd (by decide) this
        simp at this
        omega
      have key : ∀ j, j < 4 → -1 ≤ cmp j r' ∧ cmp j r' ≤ 1 := fun j hj => by
        by_cases e : j = fstq r'
        · rw [e]; exact hb1
        · rw [zz j hj e]; decide
      exact ⟨key 0 (by decide), key 1 (by decide), key 2 (by decide), key 3 (by decide)⟩
    · rcases hk with h | h | h | h
      · rw [h] at hb ⊢; exact hb
      · rw [h] at hb ⊢; exact hb
      · rw [h] at hb ⊢; exact hb
      · exact absurd h h3
end Go.Proofs.YtkgihmhehkaocaaGreat

/- A row reduced by rows, as the document's answers make it (great seat).
Conditions: the bounds written at each theorem. -/
namespace Go.Proofs.YtkgihmhehkaocaaGreat
set_option linter.unusedVariables false
set_option linter.unusedSimpArgs false
set_option maxRecDepth 1000000
open Go.RowKit
open Um Tm

theorem smq_any (x : Q) (m : Int) (w : World) (hm : 0 ≤ m ∧ m ≤ 1152921504606846976) (hx : B4 x m) : Calls Tryz.prog 84 #[.agg #[.int .i64 x.a, .int .i64 x.b, .int .i64 x.c, .int .i64 x.d]] w fun e w' => (∃ (y : Q) (k : Int), e = .returned (.agg #[.int .i64 y.a, .int .i64 y.b, .int .i64 y.c, .int .i64 y.d]) ∧ k ≠ 0 ∧ (∀ j, j < 4 → cmp j x = k * cmp j y) ∧ B4 y m ∧ (¬ Z4 y → Prm y)) ∧ Below w.heap.size w w' := by
  by_cases hz : Z4 x
  · obtain ⟨z0, z1, z2, z3⟩ := hz
    rw [z0, z1, z2, z3]
    refine (small_z w).mono fun e w' ⟨he, hb⟩ => ⟨⟨⟨0, 0, 0, 0, 0⟩, 1, he, by decide, fun j hj => ?_, ⟨by dsimp only; omega, by dsimp only; omega, by dsimp only; omega, by dsimp only; omega⟩, fun h => absurd ⟨rfl, rfl, rfl, rfl⟩ h⟩, hb⟩
    rcases cases4 hj with rfl | rfl | rfl | rfl
    · exact z0.trans (by decide)
    · exact z1.trans (by decide)
    · exact z2.trans (by decide)
    · exact z3.trans (by decide)
  · exact (small_ne x m w hm hx hz).mono fun e w' ⟨⟨y, k, he, hk, hj, hb⟩, hw⟩ => ⟨⟨y, k, he, hk, hj, hb.b, fun _ => hb.p⟩, hw⟩
theorem liesq_at {w : World} {b off : Nat} {B : List Q} (h : LiesI w b off (flq B)) {i k : Nat} {q : Q} (hx : B[i]? = some q) (hk : k < 4) : w.cell? ⟨b, off + i * 4 + k, none⟩ = some (.int .i64 (cmp k q)) := by
  obtain ⟨l0, l1, l2, l3⟩ := liesq h hx
  rcases cases4 hk with rfl | rfl | rfl | rfl
  · exact l0
  · exact l1
  · exact l2
  · exact l3
theorem q4_at (q : Q) {k : Nat} (hk : k < 4) : (q4 q)[k]? = some (cmp k q) := by
  rcases cases4 hk with rfl | rfl | rfl | rfl <;> rfl
theorem infoRw : (Tryz.prog.info? 31).map (fun i => (i.zero, i.size, i.bytes)) = some (some (.agg #[.int .i64 0, .int .i64 0, .int .i64 0, .int .i64 0]), 4, 32) := by kernel_rfl
theorem IBox.set4 {w : World} {g : Nat} {a b c d : Int} {y : Q} (k : IBox w g [a, b, c, d]) : IBox (w.setCells g 0 [.int .i64 y.a, .int .i64 y.b, .int .i64 y.c, .int .i64 y.d]) g (q4 y) :=
  (((k.put 0 (by simp) y.a).put 1 (by simp) y.b).put 2 (by simp) y.c).put 3 (by simp) y.d
theorem four_eq {l : List Int} (h : l.length = 4) : ∃ a b c d, l = [a, b, c, d] := by
  match l, h with
  | [a, b, c, d], _ => exact ⟨a, b, c, d, rfl⟩
theorem below_by {w w1 : World} (row : Option Nat) (h : Below w.heap.size w w1) : w.grownBy w1 row := ⟨h.os, h.tape, h.output, h.size, fun i hi _ => h.block i hi⟩
set_option maxHeartbeats 6400000 in
theorem reduce_any (R : List Q) (r : Q) (m : Nat) (v : Value) (w : World) (h : w.ownsRow m 31 4 v R.length ((flq R).map vi)) (hm : m ≤ w.heap.size) (hE : Ech R) (hB : RBd R) (hr : B4 r 8) (h4 : R.length ≤ 4) : Calls Tryz.prog 51 #[v, .agg #[.int .i64 r.a, .int .i64 r.b, .int .i64 r.c, .int .i64 r.d]] w fun e w' => (∃ (r' : Q) (R' : List Q) (v' : Value), e = .returned v' ∧ RdL R r r' ∧ B4 r' (rb R.length) ∧ (0 < R.length → ¬ Z4 r' → Prm r') ∧ ((¬ fstq r' < 4 ∧ R' = R) ∨ (fstq r' < 4 ∧ R' = R ++ [r'])) ∧ w'.ownsRow m 31 4 v' R'.length ((flq R').map vi) ∧ (v'.ownBlock = v.ownBlock ∨ ∃ j, v'.ownBlock = some j ∧ w.heap.size ≤ j)) ∧ w.grownBy w' v.ownBlock := by
  obtain ⟨i0, hi0, hz0, hz1, hz2⟩ := info_parts infoRw
  obtain ⟨ao, cap, rfl⟩ := owned_formG h
  have cF := Lib.hid (fun (q : Q) (W : World) => first4_any q.a q.b q.c q.d W)
  have HO := Lib.hid h
  have HE := Lib.hid hE
  have HB := Lib.hid hB
  have HM := Lib.hid hm
  have H4 := Lib.hid h4
  have HR0 : Hid (B4 r (rb 0)) := Lib.hid hr
  clear h hE hB hm hr h4
  go_enter Tryz.func51, Tryz.ntmps51
  go_wp2
  have X0 := Lib.hid (IBox.new4G (w := w) (T := 31) (x0 := r.a) (x1 := r.b) (x2 := r.c) (x3 := r.d))
  have B0 := Lib.hid (ba1 (w := w) (o := .cells #[.int .i64 r.a, .int .i64 r.b, .int .i64 r.c, .int .i64 r.d] 31))
  generalize w.alloc (.cells #[.int .i64 r.a, .int .i64 r.b, .int .i64 r.c, .int .i64 r.d] 31) = W0 at *
  go_loopw [5] (fun q wr => ∃ (i : Nat) (cur : Q), i ≤ R.length ∧ q = .int .i64 i ∧ Hid (RdL (R.take i) r cur) ∧ Hid (B4 cur (rb i)) ∧ Hid (0 < i → ¬ Z4 cur → Prm cur) ∧ Hid (IBox wr w.heap.size (q4 cur)) ∧ Hid (Below w.heap.size w wr)) (fun q _ => R.length - (intOf q).toNat)
  case atStart => exact ⟨0, r, by omega, rfl, Lib.hid (.nil _), HR0, Lib.hid (fun h => by omega), X0, B0⟩
  case round =>
    obtain ⟨i, cur, hi, rfl, HRd, HCb, HCp, HX, HBl⟩ := hrel
    clear X0 B0
    by_cases hlt : i < R.length
    · have ii : (i : Int) < (R.length : Int) := by omega
      obtain ⟨row, hx⟩ : ∃ row, R[i]? = some row := ⟨_, List.getElem?_eq_getElem hlt⟩
      obtain ⟨g, cap', hv, hg, hli⟩ := owned_liesNG HO.out (by omega) (flq_len R)
      cases hv
      have h4' : i < 4 := by have := H4.out; omega
      have hf : fstq row < 4 := HE.out.n row (List.mem_of_getElem? hx)
      have hB4 := HB.out i row hx
      have glt : g < w.heap.size := World.block_lt_of_cell? _ _ (liesq hli hx).1
      have hbnds := fun (n : Nat) (hn : n < 4) => rdv_bnds (k := n) h4' HCb.out hB4 hf hn
      have hrs := rb_step h4'
      have hrr := rb_rng (i := i + 1) (by omega)
      have HW : Hid (∀ n, n < 4 → IntKind.i64.wrap (cmp n cur * cmp (fstq row) row) = cmp n cur * cmp (fstq row) row ∧ IntKind.i64.wrap (cmp n row * cmp (fstq row) cur) = cmp n row * cmp (fstq row) cur ∧ IntKind.i64.wrap (cmp n cur * cmp (fstq row) row - cmp n row * cmp (fstq row) cur) = cmp n (rdv row cur)) := Lib.hid (fun n hn => by
        obtain ⟨h1, h2⟩ := hbnds n hn
        rw [rdv_cmp row cur hn]
        generalize rb i * bn i = u at *
        exact ⟨IntWalk.i64_in _ (by omega), IntWalk.i64_in _ (by omega), IntWalk.i64_in _ (by omega)⟩)
      have HV4 := Lib.hid (rdv_b4 h4' HCb.out hB4 hf)
      have HRR := Lib.hid hrr
      have HT : Hid (R.take (i + 1) = R.take i ++ [row]) := Lib.hid (by
        rw [List.take_add_one, hx]; rfl)
      have cF1 : ∀ W : World, Calls Tryz.prog 83 #[.agg #[.int .i64 row.a, .int .i64 row.b, .int .i64 row.c, .int .i64 row.d]] W fun e w' => e = .returned (.int .i64 (fstq row : Int)) ∧ Below W.heap.size W w' := fun W => cF.out row W
      obtain ⟨l0, l1, l2, l3⟩ := liesq (hli.later HBl.out) hx
      simp only [Nat.zero_add] at l0 l1 l2 l3
      have lb := World.block_lt_of_cell? _ _ l0
      have HLI := Lib.hid hli
      have HXR := Lib.hid hx
      have HF := Lib.hid hf
      have HGL := Lib.hid glt
      clear hx hli hg hf hbnds hrs hrr hB4 glt
      go_wp2_with (fail)
      refine (cF1 _).mono ?_
      rintro e w2 ⟨rfl, hw2⟩
      have X2 := Lib.hid (HX.out.later hw2)
      have B2 := Lib.hid (HBl.out.trans (hw2.mono HBl.out.size))
      clear hw2 HX HBl cF1 l0 l1 l2 l3 lb
      have lk := liesq_at (HLI.out.later B2.out) HXR.out HF.out
      rw [Nat.zero_add] at lk
      have lb := World.block_lt_of_cell? _ _ lk
      have xk := X2.out.at (q4_at cur HF.out)
      have xl := X2.out.lt
      have kif : ((fstq row : Nat) : Int) < 4 := by have := HF.out; omega
      obtain ⟨kk, hkk⟩ : ∃ x, x = fstq row := ⟨_, rfl⟩
      rw [← hkk] at lk xk kif HW HF ⊢
      generalize ha : cmp kk row = a at *
      generalize hb : cmp kk cur = b at *
      have HKA := Lib.hid (And.intro hkk (And.intro ha hb))
      clear hkk ha hb
      go_wp2_with (fail)
      refine Tail.region_below (by kernel_rfl) (by kernel_rfl) ?_
      have kc := @Tail.cell_re
      repeat (go_big_quiet_step (fail))
      refine wpQuiet_nil ?_
      intro w3 hw3
      have X3 := Lib.hid (X2.out.later hw3)
      have B3 := Lib.hid (B2.out.trans (hw3.mono B2.out.size))
      clear hw3 X2 B2 lk lb xk xl kif kc
      go_wp2
      go_loopw [9] (fun q' wr => ∃ (n : Nat) (l : List Int), n ≤ 4 ∧ q' = .int .i64 n ∧ Hid (l.length = 4) ∧ Hid (∀ j, j < n → l.getD j 0 = cmp j (rdv row cur)) ∧ Hid (∀ j, n ≤ j → j < 4 → l[j]? = some (cmp j cur)) ∧ Hid (IBox wr w.heap.size l) ∧ Hid (Below w.heap.size w wr)) (fun q' _ => 4 - (intOf q').toNat)
      case atStart => exact ⟨0, q4 cur, by omega, rfl, Lib.hid rfl, Lib.hid (fun j hj => by omega), Lib.hid (fun j _ hj => q4_at cur hj), X3, B3⟩
      case round =>
        obtain ⟨n, l, hn, rfl, HLl, HLv, HLr, HX, HY⟩ := hrel
        clear X3 B3
        by_cases hn4 : n < 4
        · have hnl : n < l.length := by rw [HLl.out]; exact hn4
          obtain ⟨e0, f0, g0⟩ := HW.out n hn4
          have xn := HX.out.at (HLr.out n (Nat.le_refl _) hn4)
          have xl := HX.out.lt
          have ln := liesq_at (HLI.out.later HY.out) HXR.out hn4
          rw [Nat.zero_add] at ln
          have lb := World.block_lt_of_cell? _ _ ln
          have in4 : (n : Int) < 4 := by omega
          obtain ⟨v0, hv0⟩ : ∃ z, z = cmp n (rdv row cur) := ⟨_, rfl⟩
          rw [← hv0] at g0
          have HV0 := Lib.hid hv0
          generalize cmp n cur = cn at *
          generalize cmp n row = rn at *
          generalize hp0 : cn * a = p0 at *
          generalize hq0 : rn * b = q0 at *
          clear hv0
          go_wp2_with (fail)
          refine Tail.region_tail_below 16 (by kernel_rfl) (by kernel_rfl) ?_
          simp only [List.take_succ_cons, List.take_zero, List.drop_succ_cons, List.drop_zero]
          have kc := @Tail.cell_re
          repeat (go_big_quiet_step (fail))
          refine wpQuiet_nil ?_
          intro y0 hy0
          have SS := Lib.hid (HX.out.later hy0)
          have YY := Lib.hid (HY.out.trans (hy0.mono HY.out.size))
          clear xn xl ln lb kc hy0 HX HY e0 f0 g0 hp0 hq0
          have cS := SS.out.at (HLr.out n (Nat.le_refl _) hn4)
          have fS := SS.out.free
          have lS := SS.out.lt
          have HS1 := Lib.hid (SS.out.put n hnl v0)
          have HY1 := Lib.hid (YY.out.setCell (p := ⟨w.heap.size, n, none⟩) (Nat.le_refl _) (.int .i64 v0))
          have HLl1 : Hid ((l.set n v0).length = 4) := Lib.hid (by rw [List.length_set]; exact HLl.out)
          have HLv1 : Hid (∀ j, j < n + 1 → (l.set n v0).getD j 0 = cmp j (rdv row cur)) := Lib.hid (fun j hj => by
            rw [getD_set _ _ _ _ hnl]
            by_cases h : j = n
            · rw [if_pos h, h]; exact HV0.out
            · rw [if_neg h]; exact HLv.out j (by omega))
          have HLr1 : Hid (∀ j, n + 1 ≤ j → j < 4 → (l.set n v0)[j]? = some (cmp j cur)) := Lib.hid (fun j h1 h2 => by
            rw [List.getElem?_set_ne (by omega)]
            exact HLr.out j (by omega) h2)
          clear SS YY HLl HLv HLr HV0 hnl
          generalize l.set n v0 = l' at *
          generalize cmp n cur = cn' at *
          go_wp2
          exact ⟨⟨n + 1, l', by omega, by go_num, HLl1, HLv1, HLr1, HS1, HY1⟩, by simp [intOf]; omega⟩
        · obtain rfl : n = 4 := by omega
          obtain ⟨z0, z1, z2, z3, rfl⟩ := four_eq HLl.out
          have hvv : rdv row cur = ⟨z0, z1, z2, z3, 0⟩ := by
            have k0 := HLv.out 0 (by decide)
            have k1 := HLv.out 1 (by decide)
            have k2 := HLv.out 2 (by decide)
            have k3 := HLv.out 3 (by decide)
            change z0 = (rdv row cur).a at k0
            change z1 = (rdv row cur).b at k1
            change z2 = (rdv row cur).c at k2
            change z3 = (rdv row cur).d at k3
            rw [k0, k1, k2, k3]
            rfl
          have hV4 := HV4.out
          have rr := HRR.out
          have cS := fun W : World => smq_any ⟨z0, z1, z2, z3, 0⟩ (rb (i + 1)) W ⟨rr.1, by omega⟩ (by rw [← hvv]; exact hV4)
          have HVV := Lib.hid hvv
          have p0 := HX.out.at (i := 0) (x := z0) rfl
          have p1 := HX.out.at (i := 1) (x := z1) rfl
          have p2 := HX.out.at (i := 2) (x := z2) rfl
          have p3 := HX.out.at (i := 3) (x := z3) rfl
          have xl := HX.out.lt
          clear HLl HLv HLr HW hvv hV4 rr
          go_wp2_with (fail)
          refine (cS _).mono ?_
          rintro e w5 ⟨⟨y, k, rfl, hk0, hyj, hyb, hyp⟩, hw5⟩
          have X5 := HX.out.later hw5
          have Y5 := HY.out.trans (hw5.mono HY.out.size)
          have HX6 := Lib.hid (X5.set4 (y := y))
          have HY6 := Lib.hid (Y5.grown (grown_setCells w.heap.size [.int .i64 y.a, .int .i64 y.b, .int .i64 y.c, .int .i64 y.d] 0 w5) Y5.size (fun j e => by cases e; exact Nat.le_refl _))
          have HRd6 : Hid (RdL (R.take (i + 1)) r y) := Lib.hid (by
            rw [HT.out]
            exact HRd.out.snoc ⟨k, hk0, fun j hj => by
              have := hyj j hj
              rw [← HVV.out, rdv_cmp row cur hj] at this
              exact this⟩)
          have HCb6 := Lib.hid hyb
          have HCp6 : Hid (0 < i + 1 → ¬ Z4 y → Prm y) := Lib.hid (fun _ => hyp)
          have q0 := X5.at (i := 0) (x := z0) rfl
          have q1 := X5.at (i := 1) (x := z1) rfl
          have q2 := X5.at (i := 2) (x := z2) rfl
          have q3 := X5.at (i := 3) (x := z3) rfl
          have qf := X5.free
          have ql := X5.lt
          clear hw5 hk0 hyj hyb hyp X5 Y5 HX HY cS p0 p1 p2 p3 xl
          go_wp2
          exact ⟨⟨i + 1, y, by omega, by go_num, HRd6, HCb6, HCp6, HX6, HY6⟩, by simp [intOf]; omega⟩
    · obtain rfl : i = R.length := by omega
      have hrd := HRd.out
      rw [List.take_length] at hrd
      have HRd2 := Lib.hid hrd
      clear hrd HRd
      have cF1 : ∀ W : World, Calls Tryz.prog 83 #[.agg #[.int .i64 cur.a, .int .i64 cur.b, .int .i64 cur.c, .int .i64 cur.d]] W fun e w' => e = .returned (.int .i64 (fstq cur : Int)) ∧ Below W.heap.size W w' := fun W => cF.out cur W
      have hle : fstq cur ≤ 4 := fst4_le cur.a cur.b cur.c cur.d
      have p0 := HX.out.at (i := 0) (x := cur.a) rfl
      have p1 := HX.out.at (i := 1) (x := cur.b) rfl
      have p2 := HX.out.at (i := 2) (x := cur.c) rfl
      have p3 := HX.out.at (i := 3) (x := cur.d) rfl
      have xl := HX.out.lt
      go_wp2_with (fail)
      refine (cF1 _).mono ?_
      rintro e w2 ⟨rfl, hw2⟩
      have X2 := Lib.hid (HX.out.later hw2)
      have B2 := Lib.hid (HBl.out.trans (hw2.mono HBl.out.size))
      clear hw2 HX HBl cF1 p0 p1 p2 p3 xl
      by_cases h4 : fstq cur < 4
      · have hne : (((fstq cur : Nat) : Int) == 4) = false := by simp; omega
        have HF4 := Lib.hid h4
        have q0 := X2.out.at (i := 0) (x := cur.a) rfl
        have q1 := X2.out.at (i := 1) (x := cur.b) rfl
        have q2 := X2.out.at (i := 2) (x := cur.c) rfl
        have q3 := X2.out.at (i := 3) (x := cur.d) rfl
        have xl := X2.out.lt
        have hml := HM.out
        have hR4 := H4.out
        have HO2 := Lib.hid (owned_later HO.out B2.out)
        have hbs := B2.out.size
        clear h4 hle
        go_wp2_with (at_builtin; refine wpList_append_own_at _ rfl (.tmp 56) (.tmp 58) 92 rfl m 31 i0 _ 4 32 Tryz.underlying92 hi0 hz0 hz1 hz2 rfl (by decide) (.slice ao R.length cap) R.length ((flq R).map vi) rfl (HO2.out.alloc _) ⟨w2.heap.size, 0, none⟩ 1 1 [.int .i64 cur.a, .int .i64 cur.b, .int .i64 cur.c, .int .i64 cur.d] rfl rfl (four_cellsG rfl (by simp [go_sem]) (by simp [go_sem]) (by simp [go_sem]) (by simp [go_sem])) (four_oneG (q4 cur)) (by unfold maxLen; omega) (by omega) (by simp; omega) ?_; intro v6 w6 hown6 hgrow6 _ hat6)
        have HG6 := Lib.hid ((below_by (Value.ownBlock (.slice ao R.length cap)) (B2.out.trans ((ba1 (w := w2) (o := .cells #[.int .i64 cur.a, .int .i64 cur.b, .int .i64 cur.c, .int .i64 cur.d] 31)).mono hbs))).trans hgrow6)
        have HO6 : Hid (w6.ownsRow m 31 4 v6 (R ++ [cur]).length ((flq (R ++ [cur])).map vi)) := Lib.hid (by rw [flq_snoc, List.map_append, List.length_append]; exact hown6)
        have HA6 : Hid (v6.ownBlock = (Value.slice ao R.length cap).ownBlock ∨ ∃ j, v6.ownBlock = some j ∧ w.heap.size ≤ j) := Lib.hid (by
          rcases hat6 with h | h
          · exact .inl h
          · exact .inr ⟨_, h, by simp; omega⟩)
        clear hown6 hgrow6 hat6
        go_wp2
        go_ret
        exact ⟨⟨cur, R ++ [cur], _, rfl, HRd2.out, HCb.out, HCp.out, .inr ⟨HF4.out, rfl⟩, HO6.out, HA6.out⟩, HG6.out⟩
      · have hne : (((fstq cur : Nat) : Int) == 4) = true := by simp; omega
        have HF4 := Lib.hid h4
        clear h4 hle
        go_wp2
        go_ret
        exact ⟨⟨cur, R, _, rfl, HRd2.out, HCb.out, HCp.out, .inl ⟨HF4.out, rfl⟩, owned_later HO.out B2.out, .inl rfl⟩, below_by _ B2.out⟩
end Go.Proofs.YtkgihmhehkaocaaGreat

/- The rows of the document's equations for q * x = y * q: mathematics, no Go.
Conditions: those written at each theorem. -/
namespace Go.Proofs.YtkgihmhehkaocaaGreat
set_option linter.unusedVariables false
set_option linter.unusedSimpArgs false
set_option maxRecDepth 1000000
open Um Tm

/-- the coordinates, as units -/
def u1 (i : Nat) : Q := ⟨(un i).a, (un i).b, (un i).c, (un i).d, 1⟩
def dE (x y : Q) (k i : Nat) : Int := cmp k (mul (u1 i) x) * y.n - cmp k (mul y (u1 i)) * x.n
def drow (x y : Q) (k : Nat) : Q := ⟨dE x y k 0, dE x y k 1, dE x y k 2, dE x y k 3, 0⟩
theorem drow_dot (x y q : Q) {k : Nat} (hk : k < 4) : dot4 (drow x y k) q = cmp k (mul q x) * y.n - cmp k (mul y q) * x.n := by
  rcases cases4 hk with rfl | rfl | rfl | rfl <;> (simp [dot4, drow, dE, cmp, mul, u1, un]; grind)
theorem cmp_u1R (x : Q) (i k : Nat) : cmp k (mul (u1 i) x) = cmp k (mul (un i) x) := rfl
theorem cmp_u1L (x : Q) (i k : Nat) : cmp k (mul x (u1 i)) = cmp k (mul x (un i)) := rfl
theorem part2 {x : Q} (h : Sm2 x) : B4 x 2 := by
  obtain ⟨p1, p2, p3, p4, p5, p6, p7, p8⟩ := part_le x h.1.u
  have := h.2
  exact ⟨by omega, by omega, by omega, by omega⟩
theorem dE_parts {x y : Q} (hx : Sm2 x) (hy : Sm2 y) {k i : Nat} (hk : k < 4) (hi : i < 4) : (-2 ≤ cmp k (mul (u1 i) x) ∧ cmp k (mul (u1 i) x) ≤ 2) ∧ (-2 ≤ cmp k (mul y (u1 i)) ∧ cmp k (mul y (u1 i)) ≤ 2) ∧ (-4 ≤ cmp k (mul (u1 i) x) * y.n ∧ cmp k (mul (u1 i) x) * y.n ≤ 4) ∧ (-4 ≤ cmp k (mul y (u1 i)) * x.n ∧ cmp k (mul y (u1 i)) * x.n ≤ 4) := by
  have h1 := (mul_un (part2 hx) hi hk).1
  have h2 := (mul_un (part2 hy) hi hk).2
  have n1 := sm2_n hx
  have n2 := sm2_n hy
  rw [cmp_u1R, cmp_u1L]
  refine ⟨h1, h2, ?_, ?_⟩
  · rcases n2 with e | e <;> (rw [e]; omega)
  · rcases n1 with e | e <;> (rw [e]; omega)
theorem drow_bnd {x y : Q} (hx : Sm2 x) (hy : Sm2 y) {k : Nat} (hk : k < 4) : B4 (drow x y k) 8 := by
  have key : ∀ i, i < 4 → -8 ≤ dE x y k i ∧ dE x y k i ≤ 8 := fun i hi => by
    obtain ⟨_, _, h1, h2⟩ := dE_parts hx hy hk hi
    unfold dE
    omega
  exact ⟨key 0 (by omega), key 1 (by omega), key 2 (by omega), key 3 (by omega)⟩
/-- the rows of all pairs -/
def drE (X Y : List Q) (j : Nat) : Q := drow (lk X ((j / 4 : Nat) : Int)) (lk Y ((j / 4 : Nat) : Int)) (j % 4)
theorem car_drE {X Y : List Q} {q : Q} : carP X Y q ↔ ∀ j, j < X.length * 4 → dot4 (drE X Y j) q = 0 := by
  constructor
  · intro h j hj
    unfold drE
    rw [drow_dot _ _ _ (Nat.mod_lt _ (by decide))]
    have := h (j / 4) (by omega) (j % 4) (Nat.mod_lt _ (by decide))
    omega
  · intro h i hi k hk
    have := h (4 * i + k) (by omega)
    unfold drE at this
    rw [drow_dot _ _ _ (Nat.mod_lt _ (by decide)), show (4 * i + k) / 4 = i by omega, show (4 * i + k) % 4 = k by omega] at this
    omega
theorem drE_bnd {X Y : List Q} (hX : AllS X) (hY : AllS Y) (hl : Y.length = X.length) {j : Nat} (hj : j < X.length * 4) : B4 (drE X Y j) 8 :=
  drow_bnd (hX.lk (by omega) (by omega)) (hY.lk (by omega) (by omega)) (Nat.mod_lt _ (by decide))
/-- the document's number of solutions is the length of the program's basis -/
theorem drE_dim {X Y R B : List Q} (hX : AllS X) (hY : AllS Y) (hl : Y.length = X.length) (h : Rws (drE X Y) (X.length * 4) R) (hB : BasE X Y B) : 4 - (R.length : Int) = (B.length : Int) := by
  have eq : ∀ q, (∀ j, j < X.length * 4 → dot4 (rwE X Y j) q = 0) ↔ ∀ j, j < X.length * 4 → dot4 (drE X Y j) q = 0 := fun q => (car_rows hX hY hl).symm.trans car_drE
  refine (h.dim hB.1.i (fun j hj q hq => (eq q).1 (fun j hj => hB.1.z j hj q hq) j hj) (fun q hq => hB.1.s q ((eq q).2 hq))).symm
def crD (x y : Q) (i k : Nat) : List Int := (List.range 16).map fun t => if t % 4 < i ∨ (t % 4 = i ∧ t / 4 < k) then dE x y (t / 4) (t % 4) else 0
theorem crD_len (x y : Q) (i k : Nat) : (crD x y i k).length = 16 := by simp [crD]
theorem crD_set (x y : Q) {i k : Nat} (hi : i < 4) (hk : k < 4) : (crD x y i k).set (k * 4 + i) (dE x y k i) = crD x y i (k + 1) := by
  apply List.ext_getElem?
  intro t
  rw [List.getElem?_set, crD_len]
  by_cases he : k * 4 + i = t
  · subst he
    rw [if_pos rfl, if_pos (by omega)]
    simp only [crD, List.getElem?_map, List.getElem?_range (show k * 4 + i < 16 by omega), Option.map_some]
    rw [show (k * 4 + i) % 4 = i by omega, show (k * 4 + i) / 4 = k by omega, if_pos (by omega)]
  · rw [if_neg he]
    by_cases h16 : t < 16
    · simp only [crD, List.getElem?_map, List.getElem?_range h16, Option.map_some]
      congr 1
      by_cases hc : t % 4 < i ∨ (t % 4 = i ∧ t / 4 < k)
      · rw [if_pos hc, if_pos (by omega)]
      · rw [if_neg hc, if_neg (by omega)]
    · rw [List.getElem?_eq_none (by rw [crD_len]; omega), List.getElem?_eq_none (by rw [crD_len]; omega)]
theorem crD_next (x y : Q) (i : Nat) : crD x y i 4 = crD x y (i + 1) 0 := by
  unfold crD
  apply List.map_congr_left
  intro t ht
  have := List.mem_range.1 ht
  by_cases hc : t % 4 < i ∨ (t % 4 = i ∧ t / 4 < 4)
  · rw [if_pos hc, if_pos (by omega)]
  · rw [if_neg hc, if_neg (by omega)]
theorem crD_zero (x y : Q) : crD x y 0 0 = List.replicate 16 0 := by
  apply List.ext_getElem?
  intro t
  by_cases h16 : t < 16
  · simp only [crD, List.getElem?_map, List.getElem?_range h16, Option.map_some]
    rw [if_neg (by omega), List.getElem?_replicate, if_pos h16]
  · rw [List.getElem?_eq_none (by rw [crD_len]; omega), List.getElem?_eq_none (by simp; omega)]
theorem crD_at (x y : Q) {k c : Nat} (hk : k < 4) (hc : c < 4) : (crD x y 4 0)[k * 4 + c]? = some (cmp c (drow x y k)) := by
  simp only [crD, List.getElem?_map, List.getElem?_range (show k * 4 + c < 16 by omega), Option.map_some]
  rw [show (k * 4 + c) % 4 = c by omega, show (k * 4 + c) / 4 = k by omega, if_pos (by omega)]
  rcases cases4 hc with rfl | rfl | rfl | rfl <;> rfl
end Go.Proofs.YtkgihmhehkaocaaGreat

/- The number of independent solutions, as the document's answers reckon it (great seat).
Conditions: the units are small, as it is written at each theorem. -/
namespace Go.Proofs.YtkgihmhehkaocaaGreat
set_option linter.unusedVariables false
set_option linter.unusedSimpArgs false
set_option maxRecDepth 1000000
open Go.RowKit
open Um Tm

theorem IBox.wholeS {w : World} {g : Nat} {l : List Int} {T : TypeId} (h : w.heap[g]? = some (.cells (l.map vi).toArray T)) : IBox w g l := by
  refine ⟨fun i x hx => ?_, fun j => by simp [World.frozen?, h], (Array.getElem?_eq_some_iff.1 h).1⟩
  rw [Nat.zero_add]
  simp only [World.cell?, h]
  simp [hx, vi]
def bas4 : List Q := [u1 0, u1 1, u1 2, u1 3]
theorem bas4_at {k : Nat} (hk : k < 4) : bas4[k]? = some (u1 k) := by
  rcases cases4 hk with rfl | rfl | rfl | rfl <;> rfl
theorem b4_u1 (k : Nat) : B4 (u1 k) 1000 := by
  have h : B4 (un k) 1 := un_bnd
  exact ⟨by have := h.a; simp only [u1]; omega, by have := h.b; simp only [u1]; omega, by have := h.c; simp only [u1]; omega, by have := h.d; simp only [u1]; omega⟩
theorem cell_keepS {w : World} {b o e p : Nat} {v u : Value} (h : w.cell? ⟨b, o, none⟩ = some v) (hne : b ≠ e) : (w.setCell ⟨e, p, none⟩ u).cell? ⟨b, o, none⟩ = some v :=
  (grown_setCell w ⟨e, p, none⟩ u).cell h (fun h => hne (Option.some.inj h))
set_option maxHeartbeats 12800000 in
theorem refSol_any (X Y : List Q) (xo yo : Option Addr) (cx cy : Nat) (w : World) (hx : LiesO w xo X) (hy : LiesO w yo Y) (hX : AllS X) (hY : AllS Y) (hl : Y.length = X.length) (hlen : X.length ≤ 1000) : Calls Tryz.prog 26 #[.slice xo X.length cx, .slice yo Y.length cy] w fun e w' => (∃ R : List Q, Rws (drE X Y) (X.length * 4) R ∧ e = .returned (.int .i64 (4 - (R.length : Int)))) ∧ Below w.heap.size w w' := by
  have H := Lib.hid hx
  have K := Lib.hid hy
  have HX := Lib.hid hX
  have HY := Lib.hid hY
  have HL := Lib.hid hl
  have HBN := Lib.hid (fun j (hj : j < X.length * 4) => drE_bnd hX hY hl hj)
  clear hx hy hX hY hl
  generalize hny : Y.length = ny at *
  have HNY := Lib.hid hny
  clear hny
  go_enter Tryz.func26, Tryz.ntmps26
  go_wp2
  have LB0 : LBox (w.alloc (.cells #[.int .i64 1, .int .i64 0, .int .i64 0, .int .i64 0, .int .i64 1, .int .i64 0, .int .i64 1, .int .i64 0, .int .i64 0, .int .i64 1, .int .i64 0, .int .i64 0, .int .i64 1, .int .i64 0, .int .i64 1, .int .i64 0, .int .i64 0, .int .i64 0, .int .i64 1, .int .i64 1] 55)) w.heap.size bas4 := ⟨fun i z hz => by
    match i, hz with
    | 0, hz => simp [bas4] at hz; subst hz; exact ⟨by simp [go_sem, u1, un], by simp [go_sem, u1, un], by simp [go_sem, u1, un], by simp [go_sem, u1, un], by simp [go_sem, u1, un]⟩
    | 1, hz => simp [bas4] at hz; subst hz; exact ⟨by simp [go_sem, u1, un], by simp [go_sem, u1, un], by simp [go_sem, u1, un], by simp [go_sem, u1, un], by simp [go_sem, u1, un]⟩
    | 2, hz => simp [bas4] at hz; subst hz; exact ⟨by simp [go_sem, u1, un], by simp [go_sem, u1, un], by simp [go_sem, u1, un], by simp [go_sem, u1, un], by simp [go_sem, u1, un]⟩
    | 3, hz => simp [bas4] at hz; subst hz; exact ⟨by simp [go_sem, u1, un], by simp [go_sem, u1, un], by simp [go_sem, u1, un], by simp [go_sem, u1, un], by simp [go_sem, u1, un]⟩
    | n + 4, hz => simp [bas4] at hz, fun j => by simp [go_sem], by simp⟩
  have HLB0 := Lib.hid LB0
  have HB0 := Lib.hid (ba1 (w := w) (o := .cells #[.int .i64 1, .int .i64 0, .int .i64 0, .int .i64 0, .int .i64 1, .int .i64 0, .int .i64 1, .int .i64 0, .int .i64 0, .int .i64 1, .int .i64 0, .int .i64 0, .int .i64 1, .int .i64 0, .int .i64 1, .int .i64 0, .int .i64 0, .int .i64 0, .int .i64 1, .int .i64 1] 55))
  have hz0 : (w.alloc (.cells #[.int .i64 1, .int .i64 0, .int .i64 0, .int .i64 0, .int .i64 1, .int .i64 0, .int .i64 1, .int .i64 0, .int .i64 0, .int .i64 1, .int .i64 0, .int .i64 0, .int .i64 1, .int .i64 0, .int .i64 1, .int .i64 0, .int .i64 0, .int .i64 0, .int .i64 1, .int .i64 1] 55)).heap.size = w.heap.size + 1 := by simp
  clear LB0
  generalize w.alloc (.cells #[.int .i64 1, .int .i64 0, .int .i64 0, .int .i64 0, .int .i64 1, .int .i64 0, .int .i64 1, .int .i64 0, .int .i64 0, .int .i64 1, .int .i64 0, .int .i64 0, .int .i64 1, .int .i64 0, .int .i64 1, .int .i64 0, .int .i64 0, .int .i64 0, .int .i64 1, .int .i64 1] 55) = W0 at *
  go_loopw [5, 7] (fun v q wr => ∃ (i : Nat) (R : List Q), i ≤ X.length ∧ q = .int .i64 i ∧ Hid (Rws (drE X Y) (i * 4) R) ∧ Hid (RBd R) ∧ Hid (wr.ownsRow (w.heap.size + 1) 31 4 v R.length ((flq R).map vi)) ∧ Hid (LBox wr w.heap.size bas4) ∧ Hid (Below w.heap.size w wr)) (fun _ q _ => X.length - (intOf q).toNat)
  case atStart => exact ⟨0, [], by omega, rfl, Lib.hid (by rw [Nat.zero_mul]; exact Rws.start _), Lib.hid (fun i r h => by simp at h), Lib.hid (World.ownsRow_nil _ _ _ _), HLB0, HB0⟩
  case round =>
    obtain ⟨i, R, hi, rfl, HRw, HRB, HO, HLB, HBl⟩ := hrel
    clear HLB0 HB0 hz0
    obtain ⟨ro, rc, rfl⟩ := owned_formG HO.out
    by_cases hlt : i < X.length
    · have ii : (i : Int) < (X.length : Int) := by omega
      have iy : (i : Int) < (ny : Int) := by have := HL.out; omega
      obtain ⟨bx, fx, rfl, hlx⟩ := liesO_some H.out (by omega)
      obtain ⟨b', fy, rfl, hly⟩ := liesO_some K.out (by have := HNY.out; have := HL.out; omega)
      have hxg := lk_get (L := X) (i := (i : Int)) (by omega) ii
      have hyg := lk_get (L := Y) (i := (i : Int)) (by omega) (by have := HNY.out; omega)
      rw [Int.toNat_natCast] at hxg hyg
      have sx := HX.out.lk (k := (i : Int)) (by omega) ii
      have sy := HY.out.lk (k := (i : Int)) (by omega) (by have := HNY.out; omega)
      have HD : Hid (∀ k, k < 4 → drE X Y (i * 4 + k) = drow (lk X (i : Int)) (lk Y (i : Int)) k) := Lib.hid (fun k hk => by
        unfold drE
        rw [show (i * 4 + k) / 4 = i by omega, show (i * 4 + k) % 4 = k by omega])
      generalize lk X (i : Int) = x at *
      generalize lk Y (i : Int) = y at *
      have HXG := Lib.hid (hlx.atP hxg)
      have HYG := Lib.hid (hly.atP hyg)
      have HSX := Lib.hid sx
      have HSY := Lib.hid sy
      have LTX : bx < w.heap.size := World.block_lt_of_cell? _ _ HXG.out.1
      have LTY : b' < w.heap.size := World.block_lt_of_cell? _ _ HYG.out.1
      have HLTX := Lib.hid LTX
      have HLTY := Lib.hid LTY
      clear hlx hly hxg hyg sx sy LTX LTY
      generalize hfx : fx + i * 5 = ax at *
      generalize hfy : fy + i * 5 = ay at *
      go_wp2
      obtain ⟨wo, hwo⟩ : ∃ z, z = wr := ⟨_, rfl⟩
      subst hwo
      have E0 : Hid (IBox (wo.alloc (.cells #[.int .i64 0, .int .i64 0, .int .i64 0, .int .i64 0, .int .i64 0, .int .i64 0, .int .i64 0, .int .i64 0, .int .i64 0, .int .i64 0, .int .i64 0, .int .i64 0, .int .i64 0, .int .i64 0, .int .i64 0, .int .i64 0] 93)) wo.heap.size (crD x y 0 0)) := Lib.hid (by
        rw [crD_zero]
        exact IBox.wholeS (show ABx (wo.alloc (.cells #[.int .i64 0, .int .i64 0, .int .i64 0, .int .i64 0, .int .i64 0, .int .i64 0, .int .i64 0, .int .i64 0, .int .i64 0, .int .i64 0, .int .i64 0, .int .i64 0, .int .i64 0, .int .i64 0, .int .i64 0, .int .i64 0] 93)) wo.heap.size 93 ((List.replicate 16 (0 : Int)).map vi) from ABx.news _).h)
      have B0 := Lib.hid (ba1 (w := wo) (o := .cells #[.int .i64 0, .int .i64 0, .int .i64 0, .int .i64 0, .int .i64 0, .int .i64 0, .int .i64 0, .int .i64 0, .int .i64 0, .int .i64 0, .int .i64 0, .int .i64 0, .int .i64 0, .int .i64 0, .int .i64 0, .int .i64 0] 93))
      generalize wo.alloc (.cells #[.int .i64 0, .int .i64 0, .int .i64 0, .int .i64 0, .int .i64 0, .int .i64 0, .int .i64 0, .int .i64 0, .int .i64 0, .int .i64 0, .int .i64 0, .int .i64 0, .int .i64 0, .int .i64 0, .int .i64 0, .int .i64 0] 93) = Z0 at *
      go_loopw [9] (fun q wr => ∃ k : Nat, k ≤ 4 ∧ q = .int .i64 k ∧ Hid (IBox wr wo.heap.size (crD x y k 0)) ∧ Hid (Below wo.heap.size wo wr)) (fun q _ => 4 - (intOf q).toNat)
      case atStart => exact ⟨0, by omega, rfl, E0, B0⟩
      case round =>
        obtain ⟨k, hk, rfl, HE, HB⟩ := hrel
        clear E0 B0
        by_cases hk4 : k < 4
        · have ik : (k : Int) < 4 := by omega
          obtain ⟨u0, u1', u2, u3, u4⟩ := (HLB.out.later HB.out).at (bas4_at hk4)
          obtain ⟨x0, x1, x2, x3, x4⟩ := HXG.out
          obtain ⟨y0, y1, y2, y3, y4⟩ := HYG.out
          have c1 : ∀ W : World, Calls Tryz.prog 50 #[.agg #[.int .i64 (u1 k).a, .int .i64 (u1 k).b, .int .i64 (u1 k).c, .int .i64 (u1 k).d, .int .i64 (u1 k).n], .agg #[.int .i64 x.a, .int .i64 x.b, .int .i64 x.c, .int .i64 x.d, .int .i64 x.n]] W fun e w' => e = .returned (.agg #[.int .i64 (mul (u1 k) x).a, .int .i64 (mul (u1 k) x).b, .int .i64 (mul (u1 k) x).c, .int .i64 (mul (u1 k) x).d, .int .i64 (mul (u1 k) x).n]) ∧ Below W.heap.size W w' := fun W => raw4_any (u1 k) x W (small2_q (b4_u1 k) (by simp [u1]) HSX.out).1
          have c2 : ∀ W : World, Calls Tryz.prog 50 #[.agg #[.int .i64 y.a, .int .i64 y.b, .int .i64 y.c, .int .i64 y.d, .int .i64 y.n], .agg #[.int .i64 (u1 k).a, .int .i64 (u1 k).b, .int .i64 (u1 k).c, .int .i64 (u1 k).d, .int .i64 (u1 k).n]] W fun e w' => e = .returned (.agg #[.int .i64 (mul y (u1 k)).a, .int .i64 (mul y (u1 k)).b, .int .i64 (mul y (u1 k)).c, .int .i64 (mul y (u1 k)).d, .int .i64 (mul y (u1 k)).n]) ∧ Below W.heap.size W w' := fun W => raw4_any y (u1 k) W (small2_q (b4_u1 k) (by simp [u1]) HSY.out).2
          have HPT := Lib.hid (fun (j : Nat) (hj : j < 4) => dE_parts HSX.out HSY.out hj hk4)
          have HDE : Hid (∀ j, dE x y j k = cmp j (mul (u1 k) x) * y.n - cmp j (mul y (u1 k)) * x.n) := Lib.hid (fun j => rfl)
          generalize mul (u1 k) x = l at *
          generalize mul y (u1 k) = r at *
          generalize u1 k = u at *
          have hbo := HBl.out
          have hbb := hbo.trans (HB.out.mono hbo.size)
          replace x0 := held_belowG hbb x0
          replace x1 := held_belowG hbb x1
          replace x2 := held_belowG hbb x2
          replace x3 := held_belowG hbb x3
          replace x4 := held_belowG hbb x4
          replace y0 := held_belowG hbb y0
          replace y1 := held_belowG hbb y1
          replace y2 := held_belowG hbb y2
          replace y3 := held_belowG hbb y3
          replace y4 := held_belowG hbb y4
          have lx := World.block_lt_of_cell? _ _ x0
          have ly := World.block_lt_of_cell? _ _ y0
          have lu := World.block_lt_of_cell? _ _ u0
          have elt := HE.out.lt
          have HEL := Lib.hid elt
          clear hbo hbb elt
          go_wp2_with (fail)
          apply Wide.region_two 18 (.cells #[.int .i64 0, .int .i64 0, .int .i64 0, .int .i64 0, .int .i64 0] 55) (.cells #[.int .i64 0, .int .i64 0, .int .i64 0, .int .i64 0, .int .i64 0] 55) (some 10) (some 11) (by kernel_rfl) (by kernel_rfl) (by kernel_rfl) ⟨_, rfl, rfl, fun a W => ⟨rfl, by simp [go_sem]⟩⟩ ⟨_, rfl, rfl, fun a W => ⟨rfl, by simp [go_sem]⟩⟩
          · intro B hB
            have kc := @Tail.cell_re
            have hcB := Tail.cells hB
            have zB0 := Nat.lt_of_lt_of_le lu hB.size
            have zB1 := Nat.lt_of_lt_of_le lx hB.size
            have zB2 := Nat.lt_of_lt_of_le ly hB.size
            simp only [List.take_succ_cons, List.take_zero]
            repeat (go_big_quiet_step (first | (with_reducible exact Calls.regrown_of (c1 _)) | (with_reducible exact Calls.regrown_of (c2 _))))
            exact wpQuiet_nil rfl
          · intro b c w2 hb hcc hbc hw2 hx2 hy2
            simp only [List.drop_succ_cons, List.drop_zero]
            have k0 := Wide.cell_at hx2 0 _ rfl
            have k1 := Wide.cell_at hx2 1 _ rfl
            have k2 := Wide.cell_at hx2 2 _ rfl
            have k3 := Wide.cell_at hx2 3 _ rfl
            have k4 := Wide.cell_at hx2 4 _ rfl
            have f := Wide.free_at hx2
            have m0 := Wide.cell_at hy2 0 _ rfl
            have m1 := Wide.cell_at hy2 1 _ rfl
            have m2 := Wide.cell_at hy2 2 _ rfl
            have m3 := Wide.cell_at hy2 3 _ rfl
            have m4 := Wide.cell_at hy2 4 _ rfl
            have f' := Wide.free_at hy2
            have hbc' : b ≠ c := fun h => hbc h.symm
            have GB := hw2.grown (grown_setCells b [.int .i64 l.a, .int .i64 l.b, .int .i64 l.c, .int .i64 l.d, .int .i64 l.n] 0 w2) hw2.size (fun j e => by cases e; exact hb)
            have GC := GB.grown (grown_setCells c [.int .i64 r.a, .int .i64 r.b, .int .i64 r.c, .int .i64 r.d, .int .i64 r.n] 0 (w2.setCells b 0 [.int .i64 l.a, .int .i64 l.b, .int .i64 l.c, .int .i64 l.d, .int .i64 l.n])) GB.size (fun j e => by cases e; exact hcc)
            change Below wr.heap.size wr ((((((((((w2.setCell ⟨b, 0, none⟩ (.int .i64 l.a)).setCell ⟨b, 1, none⟩ (.int .i64 l.b)).setCell ⟨b, 2, none⟩ (.int .i64 l.c)).setCell ⟨b, 3, none⟩ (.int .i64 l.d)).setCell ⟨b, 4, none⟩ (.int .i64 l.n)).setCell ⟨c, 0, none⟩ (.int .i64 r.a)).setCell ⟨c, 1, none⟩ (.int .i64 r.b)).setCell ⟨c, 2, none⟩ (.int .i64 r.c)).setCell ⟨c, 3, none⟩ (.int .i64 r.d)).setCell ⟨c, 4, none⟩ (.int .i64 r.n)) at GC
            have EE0 := Lib.hid (HE.out.later GC)
            have EB0 := Lib.hid (HB.out.trans (GC.mono HB.out.size))
            have FB := Lib.hid (Nat.lt_of_lt_of_le HEL.out hb)
            have FC := Lib.hid (Nat.lt_of_lt_of_le HEL.out hcc)
            have LL0 : Hid (∀ k, k < 4 → ((((((((((w2.setCell ⟨b, 0, none⟩ (.int .i64 l.a)).setCell ⟨b, 1, none⟩ (.int .i64 l.b)).setCell ⟨b, 2, none⟩ (.int .i64 l.c)).setCell ⟨b, 3, none⟩ (.int .i64 l.d)).setCell ⟨b, 4, none⟩ (.int .i64 l.n)).setCell ⟨c, 0, none⟩ (.int .i64 r.a)).setCell ⟨c, 1, none⟩ (.int .i64 r.b)).setCell ⟨c, 2, none⟩ (.int .i64 r.c)).setCell ⟨c, 3, none⟩ (.int .i64 r.d)).setCell ⟨c, 4, none⟩ (.int .i64 r.n)).cell? ⟨b, k, none⟩ = some (.int .i64 (cmp k l))) := Lib.hid (lies4G (x0 := l.a) (x1 := l.b) (x2 := l.c) (x3 := l.d) (by simp [go_sem, k0, k1, k2, k3, hbc, hbc']) (by simp [go_sem, k0, k1, k2, k3, hbc, hbc']) (by simp [go_sem, k0, k1, k2, k3, hbc, hbc']) (by simp [go_sem, k0, k1, k2, k3, hbc, hbc']))
            have LR0 : Hid (∀ k, k < 4 → ((((((((((w2.setCell ⟨b, 0, none⟩ (.int .i64 l.a)).setCell ⟨b, 1, none⟩ (.int .i64 l.b)).setCell ⟨b, 2, none⟩ (.int .i64 l.c)).setCell ⟨b, 3, none⟩ (.int .i64 l.d)).setCell ⟨b, 4, none⟩ (.int .i64 l.n)).setCell ⟨c, 0, none⟩ (.int .i64 r.a)).setCell ⟨c, 1, none⟩ (.int .i64 r.b)).setCell ⟨c, 2, none⟩ (.int .i64 r.c)).setCell ⟨c, 3, none⟩ (.int .i64 r.d)).setCell ⟨c, 4, none⟩ (.int .i64 r.n)).cell? ⟨c, k, none⟩ = some (.int .i64 (cmp k r))) := Lib.hid (lies4G (x0 := r.a) (x1 := r.b) (x2 := r.c) (x3 := r.d) (by simp [go_sem, m0, m1, m2, m3, hbc, hbc']) (by simp [go_sem, m0, m1, m2, m3, hbc, hbc']) (by simp [go_sem, m0, m1, m2, m3, hbc, hbc']) (by simp [go_sem, m0, m1, m2, m3, hbc, hbc']))
            have HM : Hid (∀ j, j < 4 → IntKind.i64.wrap (cmp j l * y.n) = cmp j l * y.n ∧ IntKind.i64.wrap (cmp j r * x.n) = cmp j r * x.n ∧ IntKind.i64.wrap (cmp j l * y.n - cmp j r * x.n) = dE x y j k) := Lib.hid (fun j hj => by
              obtain ⟨_, _, h1, h2⟩ := HPT.out j hj
              rw [HDE.out j]
              exact ⟨IntWalk.i64_in _ (by omega), IntWalk.i64_in _ (by omega), IntWalk.i64_in _ (by omega)⟩)
            clear hx2 hy2 hw2 c1 c2 u0 u1' u2 u3 u4 x0 x1 x2 x3 x4 y0 y1 y2 y3 y4 lx ly lu GB GC HE HB HPT HDE HEL hb hcc
            go_wp2
            clear k0 k1 k2 k3 k4 m0 m1 m2 m3 m4 f f' hbc hbc'
            generalize (((((((((w2.setCell ⟨b, 0, none⟩ (.int .i64 l.a)).setCell ⟨b, 1, none⟩ (.int .i64 l.b)).setCell ⟨b, 2, none⟩ (.int .i64 l.c)).setCell ⟨b, 3, none⟩ (.int .i64 l.d)).setCell ⟨b, 4, none⟩ (.int .i64 l.n)).setCell ⟨c, 0, none⟩ (.int .i64 r.a)).setCell ⟨c, 1, none⟩ (.int .i64 r.b)).setCell ⟨c, 2, none⟩ (.int .i64 r.c)).setCell ⟨c, 3, none⟩ (.int .i64 r.d)).setCell ⟨c, 4, none⟩ (.int .i64 r.n) = C0 at *
            -- row 0
            have e0 := LL0.out 0 (by decide)
            have g0 := LR0.out 0 (by decide)
            have lb1 := World.block_lt_of_cell? _ _ e0
            have lb2 := World.block_lt_of_cell? _ _ g0
            have yn := held_belowG (HBl.out.trans (EB0.out.mono HBl.out.size)) HYG.out.2.2.2.2
            have xn := held_belowG (HBl.out.trans (EB0.out.mono HBl.out.size)) HXG.out.2.2.2.2
            have lx1 := World.block_lt_of_cell? _ _ xn
            have ly1 := World.block_lt_of_cell? _ _ yn
            obtain ⟨m0, m1, m2⟩ := HM.out 0 (by decide)
            have HSET : Hid ((crD x y k 0).set (k) (dE x y 0 k) = crD x y k (0 + 1)) := Lib.hid (by
              have := crD_set x y hk4 (show 0 < 4 by decide)
              rwa [show 0 * 4 + k = k by omega] at this)
            obtain ⟨d0, hd0⟩ : ∃ z, z = dE x y 0 k := ⟨_, rfl⟩
            rw [← hd0] at m2 HSET
            clear hd0
            have iwx : (i : Int) < (X.length : Int) := ii
            generalize cmp 0 l = lv at *
            generalize cmp 0 r = rv at *
            generalize hp0 : lv * y.n = p0 at *
            generalize hq0 : rv * x.n = q0 at *
            go_wp2_with (fail)
            refine Tail.region_tail_below 20 (by kernel_rfl) (by kernel_rfl) ?_
            simp only [List.take_succ_cons, List.take_zero, List.drop_succ_cons, List.drop_zero]
            have kc := @Tail.cell_re
            repeat (go_big_quiet_step (fail))
            refine wpQuiet_nil ?_
            intro yy0 hyy0
            have SS := Lib.hid (EE0.out.later hyy0)
            have BB := Lib.hid (EB0.out.trans (hyy0.mono EB0.out.size))
            have LLn := Lib.hid (fun j hj => held_belowG hyy0 (LL0.out j hj))
            have LRn := Lib.hid (fun j hj => held_belowG hyy0 (LR0.out j hj))
            clear hyy0 EE0 EB0 LL0 LR0 e0 g0 lb1 lb2 yn xn lx1 ly1 m0 m1 m2 kc hp0 hq0
            have hcl : k < (crD x y k 0).length := by rw [crD_len]; omega
            have s0 := SS.out.at (i := k) (List.getElem?_eq_getElem hcl)
            have sf := SS.out.free
            have sl := SS.out.lt
            have hp := SS.out.put (k) hcl d0
            rw [HSET.out] at hp
            have EE1 := Lib.hid hp
            have EB1 := Lib.hid (BB.out.setCell (p := ⟨wo.heap.size, k, none⟩) (Nat.le_refl _) (.int .i64 d0))
            have LL1 := Lib.hid (fun j hj => cell_keepS (e := wo.heap.size) (p := k) (u := .int .i64 d0) (LLn.out j hj) (Ne.symm (Nat.ne_of_lt FB.out)))
            have LR1 := Lib.hid (fun j hj => cell_keepS (e := wo.heap.size) (p := k) (u := .int .i64 d0) (LRn.out j hj) (Ne.symm (Nat.ne_of_lt FC.out)))
            generalize (crD x y k 0)[k]'hcl = old at *
            clear hp SS BB LLn LRn HSET hcl
            go_wp2
            clear s0 sf sl
            generalize yy0.setCell ⟨wo.heap.size, k, none⟩ (.int .i64 d0) = ZW0 at *
            -- row 1
            have e0 := LL1.out 1 (by decide)
            have g0 := LR1.out 1 (by decide)
            have lb1 := World.block_lt_of_cell? _ _ e0
            have lb2 := World.block_lt_of_cell? _ _ g0
            have yn := held_belowG (HBl.out.trans (EB1.out.mono HBl.out.size)) HYG.out.2.2.2.2
            have xn := held_belowG (HBl.out.trans (EB1.out.mono HBl.out.size)) HXG.out.2.2.2.2
            have lx1 := World.block_lt_of_cell? _ _ xn
            have ly1 := World.block_lt_of_cell? _ _ yn
            obtain ⟨m0, m1, m2⟩ := HM.out 1 (by decide)
            have HSET : Hid ((crD x y k 1).set (4 + k) (dE x y 1 k) = crD x y k (1 + 1)) := Lib.hid (by
              have := crD_set x y hk4 (show 1 < 4 by decide)
              rwa [show 1 * 4 + k = 4 + k by omega] at this)
            obtain ⟨d0, hd0⟩ : ∃ z, z = dE x y 1 k := ⟨_, rfl⟩
            rw [← hd0] at m2 HSET
            clear hd0
            have iwx : (i : Int) < (X.length : Int) := ii
            generalize cmp 1 l = lv at *
            generalize cmp 1 r = rv at *
            generalize hp0 : lv * y.n = p0 at *
            generalize hq0 : rv * x.n = q0 at *
            go_wp2_with (fail)
            refine Tail.region_tail_below 20 (by kernel_rfl) (by kernel_rfl) ?_
            simp only [List.take_succ_cons, List.take_zero, List.drop_succ_cons, List.drop_zero]
            have kc := @Tail.cell_re
            repeat (go_big_quiet_step (fail))
            refine wpQuiet_nil ?_
            intro yy1 hyy1
            have SS := Lib.hid (EE1.out.later hyy1)
            have BB := Lib.hid (EB1.out.trans (hyy1.mono EB1.out.size))
            have LLn := Lib.hid (fun j hj => held_belowG hyy1 (LL1.out j hj))
            have LRn := Lib.hid (fun j hj => held_belowG hyy1 (LR1.out j hj))
            clear hyy1 EE1 EB1 LL1 LR1 e0 g0 lb1 lb2 yn xn lx1 ly1 m0 m1 m2 kc hp0 hq0
            have hcl : 4 + k < (crD x y k 1).length := by rw [crD_len]; omega
            have s0 := SS.out.at (i := 4 + k) (List.getElem?_eq_getElem hcl)
            have sf := SS.out.free
            have sl := SS.out.lt
            have hp := SS.out.put (4 + k) hcl d0
            rw [HSET.out] at hp
            have EE2 := Lib.hid hp
            have EB2 := Lib.hid (BB.out.setCell (p := ⟨wo.heap.size, 4 + k, none⟩) (Nat.le_refl _) (.int .i64 d0))
            have LL2 := Lib.hid (fun j hj => cell_keepS (e := wo.heap.size) (p := 4 + k) (u := .int .i64 d0) (LLn.out j hj) (Ne.symm (Nat.ne_of_lt FB.out)))
            have LR2 := Lib.hid (fun j hj => cell_keepS (e := wo.heap.size) (p := 4 + k) (u := .int .i64 d0) (LRn.out j hj) (Ne.symm (Nat.ne_of_lt FC.out)))
            generalize (crD x y k 1)[4 + k]'hcl = old at *
            clear hp SS BB LLn LRn HSET hcl
            go_wp2
            clear s0 sf sl
            generalize yy1.setCell ⟨wo.heap.size, 4 + k, none⟩ (.int .i64 d0) = ZW1 at *
            -- row 2
            have e0 := LL2.out 2 (by decide)
            have g0 := LR2.out 2 (by decide)
            have lb1 := World.block_lt_of_cell? _ _ e0
            have lb2 := World.block_lt_of_cell? _ _ g0
            have yn := held_belowG (HBl.out.trans (EB2.out.mono HBl.out.size)) HYG.out.2.2.2.2
            have xn := held_belowG (HBl.out.trans (EB2.out.mono HBl.out.size)) HXG.out.2.2.2.2
            have lx1 := World.block_lt_of_cell? _ _ xn
            have ly1 := World.block_lt_of_cell? _ _ yn
            obtain ⟨m0, m1, m2⟩ := HM.out 2 (by decide)
            have HSET : Hid ((crD x y k 2).set (8 + k) (dE x y 2 k) = crD x y k (2 + 1)) := Lib.hid (by
              have := crD_set x y hk4 (show 2 < 4 by decide)
              rwa [show 2 * 4 + k = 8 + k by omega] at this)
            obtain ⟨d0, hd0⟩ : ∃ z, z = dE x y 2 k := ⟨_, rfl⟩
            rw [← hd0] at m2 HSET
            clear hd0
            have iwx : (i : Int) < (X.length : Int) := ii
            generalize cmp 2 l = lv at *
            generalize cmp 2 r = rv at *
            generalize hp0 : lv * y.n = p0 at *
            generalize hq0 : rv * x.n = q0 at *
            go_wp2_with (fail)
            refine Tail.region_tail_below 20 (by kernel_rfl) (by kernel_rfl) ?_
            simp only [List.take_succ_cons, List.take_zero, List.drop_succ_cons, List.drop_zero]
            have kc := @Tail.cell_re
            repeat (go_big_quiet_step (fail))
            refine wpQuiet_nil ?_
            intro yy2 hyy2
            have SS := Lib.hid (EE2.out.later hyy2)
            have BB := Lib.hid (EB2.out.trans (hyy2.mono EB2.out.size))
            have LLn := Lib.hid (fun j hj => held_belowG hyy2 (LL2.out j hj))
            have LRn := Lib.hid (fun j hj => held_belowG hyy2 (LR2.out j hj))
            clear hyy2 EE2 EB2 LL2 LR2 e0 g0 lb1 lb2 yn xn lx1 ly1 m0 m1 m2 kc hp0 hq0
            have hcl : 8 + k < (crD x y k 2).length := by rw [crD_len]; omega
            have s0 := SS.out.at (i := 8 + k) (List.getElem?_eq_getElem hcl)
            have sf := SS.out.free
            have sl := SS.out.lt
            have hp := SS.out.put (8 + k) hcl d0
            rw [HSET.out] at hp
            have EE3 := Lib.hid hp
            have EB3 := Lib.hid (BB.out.setCell (p := ⟨wo.heap.size, 8 + k, none⟩) (Nat.le_refl _) (.int .i64 d0))
            have LL3 := Lib.hid (fun j hj => cell_keepS (e := wo.heap.size) (p := 8 + k) (u := .int .i64 d0) (LLn.out j hj) (Ne.symm (Nat.ne_of_lt FB.out)))
            have LR3 := Lib.hid (fun j hj => cell_keepS (e := wo.heap.size) (p := 8 + k) (u := .int .i64 d0) (LRn.out j hj) (Ne.symm (Nat.ne_of_lt FC.out)))
            generalize (crD x y k 2)[8 + k]'hcl = old at *
            clear hp SS BB LLn LRn HSET hcl
            go_wp2
            clear s0 sf sl
            generalize yy2.setCell ⟨wo.heap.size, 8 + k, none⟩ (.int .i64 d0) = ZW2 at *
            -- row 3
            have e0 := LL3.out 3 (by decide)
            have g0 := LR3.out 3 (by decide)
            have lb1 := World.block_lt_of_cell? _ _ e0
            have lb2 := World.block_lt_of_cell? _ _ g0
            have yn := held_belowG (HBl.out.trans (EB3.out.mono HBl.out.size)) HYG.out.2.2.2.2
            have xn := held_belowG (HBl.out.trans (EB3.out.mono HBl.out.size)) HXG.out.2.2.2.2
            have lx1 := World.block_lt_of_cell? _ _ xn
            have ly1 := World.block_lt_of_cell? _ _ yn
            obtain ⟨m0, m1, m2⟩ := HM.out 3 (by decide)
            have HSET : Hid ((crD x y k 3).set (12 + k) (dE x y 3 k) = crD x y k (3 + 1)) := Lib.hid (by
              have := crD_set x y hk4 (show 3 < 4 by decide)
              rwa [show 3 * 4 + k = 12 + k by omega] at this)
            obtain ⟨d0, hd0⟩ : ∃ z, z = dE x y 3 k := ⟨_, rfl⟩
            rw [← hd0] at m2 HSET
            clear hd0
            have iwx : (i : Int) < (X.length : Int) := ii
            generalize cmp 3 l = lv at *
            generalize cmp 3 r = rv at *
            generalize hp0 : lv * y.n = p0 at *
            generalize hq0 : rv * x.n = q0 at *
            go_wp2_with (fail)
            refine Tail.region_tail_below 20 (by kernel_rfl) (by kernel_rfl) ?_
            simp only [List.take_succ_cons, List.take_zero, List.drop_succ_cons, List.drop_zero]
            have kc := @Tail.cell_re
            repeat (go_big_quiet_step (fail))
            refine wpQuiet_nil ?_
            intro yy3 hyy3
            have SS := Lib.hid (EE3.out.later hyy3)
            have BB := Lib.hid (EB3.out.trans (hyy3.mono EB3.out.size))
            have LLn := Lib.hid (fun j hj => held_belowG hyy3 (LL3.out j hj))
            have LRn := Lib.hid (fun j hj => held_belowG hyy3 (LR3.out j hj))
            clear hyy3 EE3 EB3 LL3 LR3 e0 g0 lb1 lb2 yn xn lx1 ly1 m0 m1 m2 kc hp0 hq0
            have hcl : 12 + k < (crD x y k 3).length := by rw [crD_len]; omega
            have s0 := SS.out.at (i := 12 + k) (List.getElem?_eq_getElem hcl)
            have sf := SS.out.free
            have sl := SS.out.lt
            have hp := SS.out.put (12 + k) hcl d0
            rw [HSET.out] at hp
            have EE4 := Lib.hid hp
            have EB4 := Lib.hid (BB.out.setCell (p := ⟨wo.heap.size, 12 + k, none⟩) (Nat.le_refl _) (.int .i64 d0))
            have LL4 := Lib.hid (fun j hj => cell_keepS (e := wo.heap.size) (p := 12 + k) (u := .int .i64 d0) (LLn.out j hj) (Ne.symm (Nat.ne_of_lt FB.out)))
            have LR4 := Lib.hid (fun j hj => cell_keepS (e := wo.heap.size) (p := 12 + k) (u := .int .i64 d0) (LRn.out j hj) (Ne.symm (Nat.ne_of_lt FC.out)))
            generalize (crD x y k 3)[12 + k]'hcl = old at *
            clear hp SS BB LLn LRn HSET hcl
            have hn := EE4.out
            rw [crD_next] at hn
            have EEn := Lib.hid hn
            clear hn EE4 LL4 LR4
            go_wp2
            exact ⟨⟨k + 1, by omega, by go_num, EEn, EB4⟩, by simp [intOf]; omega⟩
        · obtain rfl : k = 4 := by omega
          have HO1 := Lib.hid (owned_later HO.out HB.out)
          have HN1 : Hid (some wo.heap.size ≠ (Value.slice ro R.length rc).ownBlock) := Lib.hid (fun e => Nat.lt_irrefl _ (HO.out.lt _ e.symm).2)
          have HLB1 := Lib.hid (HLB.out.later HB.out)
          have HW1 := Lib.hid (HBl.out.trans (HB.out.mono HBl.out.size))
          have HRw1 : Hid (Rws (drE X Y) (i * 4 + 0) R) := HRw
          clear HO HLB HB HBl HRw
          generalize wo.heap.size = eb at *
          go_wp2
          go_loopw [5, 12] (fun v q wr => ∃ (k : Nat) (R' : List Q), k ≤ 4 ∧ q = .int .i64 k ∧ Hid (Rws (drE X Y) (i * 4 + k) R') ∧ Hid (RBd R') ∧ Hid (wr.ownsRow (w.heap.size + 1) 31 4 v R'.length ((flq R').map vi)) ∧ Hid (some eb ≠ v.ownBlock) ∧ Hid (IBox wr eb (crD x y 4 0)) ∧ Hid (LBox wr w.heap.size bas4) ∧ Hid (Below w.heap.size w wr)) (fun _ q _ => 4 - (intOf q).toNat)
          case atStart => exact ⟨0, R, by omega, rfl, HRw1, HRB, HO1, HN1, HE, HLB1, HW1⟩
          case round =>
            obtain ⟨k, R', hk, rfl, HRw, HRB', HO, HN, HEE, HLB, HW⟩ := hrel
            clear HRw1 HRB HO1 HN1 HE HLB1 HW1
            obtain ⟨ro', rc', rfl⟩ := owned_formG HO.out
            by_cases hk4 : k < 4
            · have ik : (k : Int) < 4 := by omega
              have e0 := HEE.out.at (crD_at x y hk4 (show 0 < 4 by decide))
              have e1 := HEE.out.at (crD_at x y hk4 (show 1 < 4 by decide))
              have e2 := HEE.out.at (crD_at x y hk4 (show 2 < 4 by decide))
              have e3 := HEE.out.at (crD_at x y hk4 (show 3 < 4 by decide))
              rw [Nat.add_zero] at e0
              have el := HEE.out.lt
              have hEk := HD.out k hk4
              have hbn := HBN.out (i * 4 + k) (by omega)
              rw [hEk] at hbn
              have HEK := Lib.hid hEk
              have h4 := HRw.out.e.ind.four
              have hsz : w.heap.size + 1 ≤ wr.heap.size := Nat.lt_of_lt_of_le HLB.out.lt (Nat.le_refl _)
              have cR := reduce_any R' (drow x y k) (w.heap.size + 1) (.slice ro' R'.length rc') wr HO.out hsz HRw.out.e HRB'.out hbn h4
              clear hEk hbn h4 hsz
              generalize drow x y k = r at *
              change wr.cell? ⟨eb, k * 4, none⟩ = some (.int .i64 r.a) at e0
              change wr.cell? ⟨eb, k * 4 + 1, none⟩ = some (.int .i64 r.b) at e1
              change wr.cell? ⟨eb, k * 4 + 2, none⟩ = some (.int .i64 r.c) at e2
              change wr.cell? ⟨eb, k * 4 + 3, none⟩ = some (.int .i64 r.d) at e3
              go_wp2_with (fail)
              refine cR.mono ?_
              rintro e w5 ⟨⟨r', R2, v2, rfl, hrd, hb4, hpr, hcase, hown, hblk⟩, hg⟩
              obtain ⟨o2, c2, rfl⟩ := owned_formG hown
              have hR2 : Hid (Rws (drE X Y) (i * 4 + (k + 1)) R2) ∧ Hid (RBd R2) := by
                have hrd' : RdL R' (drE X Y (i * 4 + k)) r' := by rw [HEK.out]; exact hrd
                rcases hcase with ⟨h4, rfl⟩ | ⟨h4, rfl⟩
                · exact ⟨Lib.hid (HRw.out.keep hrd' h4), HRB'⟩
                · refine ⟨Lib.hid (HRw.out.add hrd' h4), Lib.hid (RBd.add HRw.out.e HRB'.out hrd' h4 hb4 (fun h0 => hpr h0 (fun hz => ?_))).2⟩
                  obtain ⟨z0, z1, z2, z3⟩ := hz
                  unfold fstq at h4
                  simp [z0, z1, z2, z3] at h4
              have hne := HN.out
              have hlt2 := HEE.out.lt
              have HN5 : Hid (some eb ≠ (Value.slice o2 R2.length c2).ownBlock) := Lib.hid (by
                rcases hblk with h | ⟨j, h, hj⟩
                · rw [h]; exact hne
                · rw [h]; intro e; have := Option.some.inj e; omega)
              have HE5 := Lib.hid (HEE.out.grown hg hne)
              have HLB5 := Lib.hid (HLB.out.grown hg (owned_ne HO.out (Nat.lt_succ_self _)))
              have HW5 := Lib.hid (HW.out.grown hg HW.out.size (fun j hj => Nat.le_of_succ_le (owned_from HO.out j hj)))
              have HO5 := Lib.hid hown
              obtain ⟨HR5, HRB5⟩ := hR2
              clear hrd hb4 hpr hcase hown hblk hg hne hlt2 HN HEE HLB HW HO HRw HRB' e0 e1 e2 e3 el cR
              go_wp2
              exact ⟨⟨_, _, _, _, _, _, _, _, _, _, _, ⟨k + 1, R2, by omega, by go_num, HR5, HRB5, HO5, HN5, HE5, HLB5, HW5⟩, rfl⟩, by simp [intOf]; omega⟩
            · obtain rfl : k = 4 := by omega
              have HRn : Hid (Rws (drE X Y) ((i + 1) * 4) R') := Lib.hid (by rw [show (i + 1) * 4 = i * 4 + 4 by omega]; exact HRw.out)
              clear HRw
              go_wp2
              exact ⟨⟨i + 1, R', by omega, by go_num, HRn, HRB', HO, HLB, HW⟩, by simp [intOf]; omega⟩
    · obtain rfl : i = X.length := by omega
      have hle := HRw.out.e.ind.four
      go_wp2
      go_ret
      exact ⟨⟨R, HRw.out, rfl⟩, HBl.out⟩
end Go.Proofs.YtkgihmhehkaocaaGreat

/- Freedom and Equivalent, as the document's answers reckon them (great seat).
Conditions: the fields lie in memory as it is written at each theorem. -/
namespace Go.Proofs.YtkgihmhehkaocaaGreat
set_option linter.unusedVariables false
set_option linter.unusedSimpArgs false
set_option maxRecDepth 1000000
open Go.RowKit
open Um Tm

theorem belDF {w w1 : World} (h : Below w.drew.heap.size w.drew w1) : Below w.heap.size w w1 := ⟨h.os, h.tape, h.output, h.size, h.block⟩
set_option maxHeartbeats 1600000 in
theorem refFree_err (a b c r : Int) (ao : Option Addr) (cap : Nat) (L : List Q) (ns : List Int) (w : World) (h : LiesO w ao L) (hr : numsR a b c L ns r) (h0 : r ≠ 0) (hlen : L.length ≤ 1000000) : Calls Tryz.prog 13 #[.agg #[.int .i64 a, .int .i64 b, .int .i64 c, .slice ao L.length cap]] w fun e w' => e = .returned (.tuple #[.int .i64 0, .int .i64 r]) ∧ Below w.heap.size w w' := by
  have q2 : (r != 0) = true := by simpa using h0
  have c1 := fun (W : World) (h : LiesO W ao L) => little_any a b c r ao cap L ns W h hr hlen
  have H := Lib.hid h
  clear h hr h0
  go_enter Tryz.func13, Tryz.ntmps13
  go_wp2_with (fail)
  refine (c1 _ (H.out.later (by repeat (first | (with_reducible exact Below.refl _ _) | (with_reducible refine Below.setCell ?_ ?_ _) | (with_reducible refine Below.drew ?_) | (with_reducible refine Below.alloc ?_ ?_ _) | omega | (simp <;> omega))))).mono ?_
  rintro e w1 ⟨rfl, hw1⟩
  go_wp2
  go_ret2
  exact ⟨rfl, bel1 hw1⟩
set_option maxHeartbeats 3200000 in
theorem refFree_ok (a b c : Int) (bl off cap N : Nat) (L : List Q) (ms : List Int) (w : World) (h : Lies w bl off L) (hf : fldR a b c L 0) (hS : smR L ms true) (hN : (N : Int) = a * b * c) (hX : AllS (lpL a b c N L)) (hX48 : (lpL a b c N L).length ≤ 1000) (hlen : L.length ≤ 1000000) : Calls Tryz.prog 13 #[.agg #[.int .i64 a, .int .i64 b, .int .i64 c, .slice (some ⟨bl, off, none⟩) L.length cap]] w fun e w' => (∃ R : List Q, Rws (drE (lpL a b c N L) (lpL a b c N L)) ((lpL a b c N L).length * 4) R ∧ e = .returned (.tuple #[.int .i64 (4 - (R.length : Int)), .int .i64 0])) ∧ Below w.heap.size w w' := by
  have c1 := fun (W : World) (h : LiesO W (some ⟨bl, off, none⟩) L) => little_any a b c 0 (some ⟨bl, off, none⟩) cap L ms W h (.inr ⟨hf, .inl ⟨hS, rfl⟩⟩) hlen
  have c2 := fun (W : World) (h : Lies W bl off L) => refLp_ok a b c bl off cap N L W h hf (AllS.num hS) hN
  have c3 := c2
  have c4 := fun (W : World) (o1 o2 : Option Addr) (k1 k2 : Nat) (h1 : LiesO W o1 (lpL a b c N L)) (h2 : LiesO W o2 (lpL a b c N L)) => refSol_any (lpL a b c N L) (lpL a b c N L) o1 o2 k1 k2 W h1 h2 hX hX rfl hX48
  have H := Lib.hid h
  clear h hf hS hN hX hX48 hlen
  generalize lpL a b c N L = X at *
  go_enter Tryz.func13, Tryz.ntmps13
  have f0 : FW (w.alloc (.cells #[.int .i64 a, .int .i64 b, .int .i64 c, .slice (some ⟨bl, off, none⟩) L.length cap] 25)) w.heap.size a b c (.slice (some ⟨bl, off, none⟩) L.length cap) := ⟨by simp [go_sem], by simp [go_sem], by simp [go_sem], by simp [go_sem], fun j => by simp [go_sem], by simp <;> omega⟩
  have F0 := Lib.hid f0
  clear f0
  go_wp2_with (fail)
  refine (c1 _ (.inr ⟨bl, off, rfl, H.out.later (by repeat (first | (with_reducible exact Below.refl _ _) | (with_reducible refine Below.setCell ?_ ?_ _) | (with_reducible refine Below.drew ?_) | (with_reducible refine Below.alloc ?_ ?_ _) | omega | (simp <;> omega)))⟩)).mono ?_
  rintro e w1 ⟨rfl, hw1⟩
  have F1 := Lib.hid (F0.out.later hw1)
  have b1 : Below w.heap.size w w1 := by repeat (first | (with_reducible exact Below.refl _ _) | (with_reducible refine Below.setCell ?_ ?_ _) | (with_reducible refine Below.drew ?_) | (with_reducible refine Below.alloc ?_ ?_ _) | (with_reducible refine Below.trans ?_ (Below.mono hw1 ?_)) | (with_reducible exact hw1.size) | omega | (simp <;> omega) | (simp <;> (have s := hw1.size; omega)) | (have s0 := hw1.size; (try simp at s0); (try simp); omega))
  clear hw1 F0 c1
  obtain ⟨f0, f1, f2, f3, ff, fl⟩ := F1.out
  go_wp2
  have hZ := b1.size
  have K5 : Hid (∀ w' : World, Below w1.heap.size w1 w' → (w'.cell? ⟨w.heap.size, 0, none⟩ = some (.int .i64 a) ∧ w'.cell? ⟨w.heap.size, 1, none⟩ = some (.int .i64 b) ∧ w'.cell? ⟨w.heap.size, 2, none⟩ = some (.int .i64 c) ∧ w'.cell? ⟨w.heap.size, 3, none⟩ = some (.slice (some ⟨bl, off, none⟩) L.length cap))) := Lib.hid (fun w' h => ⟨held_belowG h f0, held_belowG h f1, held_belowG h f2, held_belowG h f3⟩)
  go_region_held3 (fun w' => w'.cell? ⟨w.heap.size, 0, none⟩ = some (.int .i64 a) ∧ w'.cell? ⟨w.heap.size, 1, none⟩ = some (.int .i64 b) ∧ w'.cell? ⟨w.heap.size, 2, none⟩ = some (.int .i64 c) ∧ w'.cell? ⟨w.heap.size, 3, none⟩ = some (.slice (some ⟨bl, off, none⟩) L.length cap))
    (first
      | go_keep
      | (exact K5.out _ (Below.refl _ _))
      | (exact K5.out _ hw2)
      | (exact K5.out _ (belDF hw2))
      | (exact K5.out _ (hw2.trans (hw3.mono hw2.size)))
      | (exact K5.out _ ((belDF hw2).trans (hw3.mono hw2.size)))
      | (exact K5.out _ ((hw2.trans (hw3.mono hw2.size)).trans (hw4.mono (Nat.le_trans hw2.size hw3.size))))
      | (exact K5.out _ (((belDF hw2).trans (hw3.mono hw2.size)).trans (hw4.mono (Nat.le_trans hw2.size hw3.size)))))
    (first
      | ((with_reducible refine (c2 _ (H.out.later b1)).mono ?_); clear c2; rintro e w2 ⟨⟨o1, k1, rfl, hp⟩, hw2⟩; have HP := Lib.hid hp; clear hp)
      | ((with_reducible refine (c2 _ (H.out.later (b1.drew))).mono ?_); clear c2; rintro e w2 ⟨⟨o1, k1, rfl, hp⟩, hw2⟩; have HP := Lib.hid hp; clear hp)
      | ((with_reducible refine (c3 _ (H.out.later (b1.trans (hw2.mono hZ)))).mono ?_); clear c3; rintro e w3 ⟨⟨o2, k2, rfl, hp⟩, hw3⟩; have HP3 := Lib.hid hp; clear hp)
      | ((with_reducible refine (c3 _ (H.out.later (b1.trans ((belDF hw2).mono hZ)))).mono ?_); clear c3; rintro e w3 ⟨⟨o2, k2, rfl, hp⟩, hw3⟩; have HP3 := Lib.hid hp; clear hp)
      | ((with_reducible refine (c4 _ _ _ _ _ (HP.out.later hw3) HP3.out).mono ?_); rintro e w4 ⟨⟨R, hR, rfl⟩, hw4⟩; have HR := Lib.hid hR; clear hR))
  all_goals
    go_wp2
    go_ret2
    refine ⟨⟨R, HR.out, rfl⟩, ?_⟩
    first
      | exact b1.trans (((hw2.trans (hw3.mono hw2.size)).trans (hw4.mono (Nat.le_trans hw2.size hw3.size))).mono hZ)
      | exact b1.trans ((((belDF hw2).trans (hw3.mono hw2.size)).trans (hw4.mono (Nat.le_trans hw2.size hw3.size))).mono hZ)
set_option maxHeartbeats 1600000 in
theorem refEqv_err (a b c a' b' c' r : Int) (ao bo : Option Addr) (cap cap' : Nat) (L M : List Q) (w : World) (h : LiesO w ao L) (h' : LiesO w bo M) (h0 : r ≠ 0) (cP : ∀ W : World, LiesO W ao L → LiesO W bo M → Calls Tryz.prog 25 #[.agg #[.int .i64 a, .int .i64 b, .int .i64 c, .slice ao L.length cap], .agg #[.int .i64 a', .int .i64 b', .int .i64 c', .slice bo M.length cap']] W fun e w' => e = .returned (.int .i64 r) ∧ Below W.heap.size W w') : Calls Tryz.prog 9 #[.agg #[.int .i64 a, .int .i64 b, .int .i64 c, .slice ao L.length cap], .agg #[.int .i64 a', .int .i64 b', .int .i64 c', .slice bo M.length cap']] w fun e w' => e = .returned (.tuple #[.bool false, .int .i64 r]) ∧ Below w.heap.size w w' := by
  have q2 : (r != 0) = true := by simpa using h0
  have H := Lib.hid h
  have K := Lib.hid h'
  clear h h' h0
  go_enter Tryz.func9, Tryz.ntmps9
  go_wp2_with (fail)
  refine (cP _ (H.out.later ba2) (K.out.later ba2)).mono ?_
  rintro e w1 ⟨rfl, hw1⟩
  go_wp2
  go_ret2
  exact ⟨rfl, bel2 hw1⟩
set_option maxHeartbeats 3200000 in
theorem refEqv_ok (a b c a' b' c' : Int) (bl off bl' off' cap cap' : Nat) (L M X Y : List Q) (w : World) (h : Lies w bl off L) (h' : Lies w bl' off' M) (hX : AllS X) (hY : AllS Y) (hl : Y.length = X.length) (hX48 : X.length ≤ 1000)
    (c1 : ∀ W : World, LiesO W (some ⟨bl, off, none⟩) L → LiesO W (some ⟨bl', off', none⟩) M → Calls Tryz.prog 25 #[.agg #[.int .i64 a, .int .i64 b, .int .i64 c, .slice (some ⟨bl, off, none⟩) L.length cap], .agg #[.int .i64 a', .int .i64 b', .int .i64 c', .slice (some ⟨bl', off', none⟩) M.length cap']] W fun e w' => e = .returned (.int .i64 0) ∧ Below W.heap.size W w')
    (c2 : ∀ W : World, Lies W bl off L → Calls Tryz.prog 27 #[.agg #[.int .i64 a, .int .i64 b, .int .i64 c, .slice (some ⟨bl, off, none⟩) L.length cap]] W fun e w' => (∃ ao k, e = .returned (.slice ao X.length k) ∧ LiesO w' ao X) ∧ Below W.heap.size W w')
    (c3 : ∀ W : World, Lies W bl' off' M → Calls Tryz.prog 27 #[.agg #[.int .i64 a', .int .i64 b', .int .i64 c', .slice (some ⟨bl', off', none⟩) M.length cap']] W fun e w' => (∃ ao k, e = .returned (.slice ao Y.length k) ∧ LiesO w' ao Y) ∧ Below W.heap.size W w') :
    Calls Tryz.prog 9 #[.agg #[.int .i64 a, .int .i64 b, .int .i64 c, .slice (some ⟨bl, off, none⟩) L.length cap], .agg #[.int .i64 a', .int .i64 b', .int .i64 c', .slice (some ⟨bl', off', none⟩) M.length cap']] w fun e w' => (∃ R : List Q, Rws (drE X Y) (X.length * 4) R ∧ e = .returned (.tuple #[.bool (decide (0 < 4 - (R.length : Int))), .int .i64 0])) ∧ Below w.heap.size w w' := by
  have c4 : ∀ (W : World) (o1 o2 : Option Addr) (k1 k2 : Nat) (h1 : LiesO W o1 X) (h2 : LiesO W o2 Y), Calls Tryz.prog 26 #[.slice o1 X.length k1, .slice o2 Y.length k2] W fun e w' => (∃ (R : List Q) (z : Int), Rws (drE X Y) (X.length * 4) R ∧ z = 4 - (R.length : Int) ∧ e = .returned (.int .i64 z)) ∧ Below W.heap.size W w' := fun W o1 o2 k1 k2 h1 h2 => (refSol_any X Y o1 o2 k1 k2 W h1 h2 hX hY hl hX48).mono fun e w' ⟨⟨R, hR, he⟩, hw⟩ => ⟨⟨R, _, hR, rfl, he⟩, hw⟩
  have H := Lib.hid h
  have K := Lib.hid h'
  clear h h' hX hY hl hX48
  go_enter Tryz.func9, Tryz.ntmps9
  have f0 : FW ((w.alloc (.cells #[.int .i64 a, .int .i64 b, .int .i64 c, .slice (some ⟨bl, off, none⟩) L.length cap] 25)).alloc (.cells #[.int .i64 a', .int .i64 b', .int .i64 c', .slice (some ⟨bl', off', none⟩) M.length cap'] 25)) w.heap.size a b c (.slice (some ⟨bl, off, none⟩) L.length cap) := FW.n2a
  have g0 : FW ((w.alloc (.cells #[.int .i64 a, .int .i64 b, .int .i64 c, .slice (some ⟨bl, off, none⟩) L.length cap] 25)).alloc (.cells #[.int .i64 a', .int .i64 b', .int .i64 c', .slice (some ⟨bl', off', none⟩) M.length cap'] 25)) (w.heap.size + 1) a' b' c' (.slice (some ⟨bl', off', none⟩) M.length cap') := FW.n2b
  have F0 := Lib.hid f0
  have G0 := Lib.hid g0
  clear f0 g0
  go_wp2_with (fail)
  refine (c1 _ (.inr ⟨bl, off, rfl, H.out.later ba2⟩) (.inr ⟨bl', off', rfl, K.out.later ba2⟩)).mono ?_
  rintro e w1 ⟨rfl, hw1⟩
  have F1 := Lib.hid (F0.out.later hw1)
  have G1 := Lib.hid (G0.out.later hw1)
  have b1 : Below w.heap.size w w1 := bel2 hw1
  clear hw1 F0 G0 c1
  obtain ⟨f0, f1, f2, f3, ff, fl⟩ := F1.out
  obtain ⟨g0, g1, g2, g3, gf, gl⟩ := G1.out
  go_wp2
  have hZ := b1.size
  have K5 : Hid (∀ w' : World, Below w1.heap.size w1 w' → (w'.cell? ⟨w.heap.size, 0, none⟩ = some (.int .i64 a) ∧ w'.cell? ⟨w.heap.size, 1, none⟩ = some (.int .i64 b) ∧ w'.cell? ⟨w.heap.size, 2, none⟩ = some (.int .i64 c) ∧ w'.cell? ⟨w.heap.size, 3, none⟩ = some (.slice (some ⟨bl, off, none⟩) L.length cap) ∧ w'.cell? ⟨w.heap.size + 1, 0, none⟩ = some (.int .i64 a') ∧ w'.cell? ⟨w.heap.size + 1, 1, none⟩ = some (.int .i64 b') ∧ w'.cell? ⟨w.heap.size + 1, 2, none⟩ = some (.int .i64 c') ∧ w'.cell? ⟨w.heap.size + 1, 3, none⟩ = some (.slice (some ⟨bl', off', none⟩) M.length cap'))) := Lib.hid (fun w' h => ⟨held_belowG h f0, held_belowG h f1, held_belowG h f2, held_belowG h f3, held_belowG h g0, held_belowG h g1, held_belowG h g2, held_belowG h g3⟩)
  go_region_held3 (fun w' => w'.cell? ⟨w.heap.size, 0, none⟩ = some (.int .i64 a) ∧ w'.cell? ⟨w.heap.size, 1, none⟩ = some (.int .i64 b) ∧ w'.cell? ⟨w.heap.size, 2, none⟩ = some (.int .i64 c) ∧ w'.cell? ⟨w.heap.size, 3, none⟩ = some (.slice (some ⟨bl, off, none⟩) L.length cap) ∧ w'.cell? ⟨w.heap.size + 1, 0, none⟩ = some (.int .i64 a') ∧ w'.cell? ⟨w.heap.size + 1, 1, none⟩ = some (.int .i64 b') ∧ w'.cell? ⟨w.heap.size + 1, 2, none⟩ = some (.int .i64 c') ∧ w'.cell? ⟨w.heap.size + 1, 3, none⟩ = some (.slice (some ⟨bl', off', none⟩) M.length cap'))
    (first
      | go_keep
      | (exact K5.out _ (Below.refl _ _))
      | (exact K5.out _ hw2)
      | (exact K5.out _ (belDF hw2))
      | (exact K5.out _ (hw2.trans (hw3.mono hw2.size)))
      | (exact K5.out _ ((belDF hw2).trans (hw3.mono hw2.size)))
      | (exact K5.out _ ((hw2.trans (hw3.mono hw2.size)).trans (hw4.mono (Nat.le_trans hw2.size hw3.size))))
      | (exact K5.out _ (((belDF hw2).trans (hw3.mono hw2.size)).trans (hw4.mono (Nat.le_trans hw2.size hw3.size)))))
    (first
      | ((with_reducible refine (c2 _ (H.out.later b1)).mono ?_); clear c2; rintro e w2 ⟨⟨o1, k1, rfl, hp⟩, hw2⟩; have HP := Lib.hid hp; clear hp)
      | ((with_reducible refine (c2 _ (H.out.later (b1.drew))).mono ?_); clear c2; rintro e w2 ⟨⟨o1, k1, rfl, hp⟩, hw2⟩; have HP := Lib.hid hp; clear hp)
      | ((with_reducible refine (c3 _ (K.out.later (b1.trans (hw2.mono hZ)))).mono ?_); clear c3; rintro e w3 ⟨⟨o2, k2, rfl, hp⟩, hw3⟩; have HP3 := Lib.hid hp; clear hp)
      | ((with_reducible refine (c3 _ (K.out.later (b1.trans ((belDF hw2).mono hZ)))).mono ?_); clear c3; rintro e w3 ⟨⟨o2, k2, rfl, hp⟩, hw3⟩; have HP3 := Lib.hid hp; clear hp)
      | ((with_reducible refine (c4 _ _ _ _ _ (HP.out.later hw3) HP3.out).mono ?_); rintro e w4 ⟨⟨R, z, hR, hz, rfl⟩, hw4⟩; have HR := Lib.hid hR; have HZ := Lib.hid hz; clear hR hz))
  all_goals
    go_wp2
    go_ret2
    refine ⟨⟨R, HR.out, by rw [← HZ.out]; rfl⟩, ?_⟩
    first
      | exact b1.trans (((hw2.trans (hw3.mono hw2.size)).trans (hw4.mono (Nat.le_trans hw2.size hw3.size))).mono hZ)
      | exact b1.trans ((((belDF hw2).trans (hw3.mono hw2.size)).trans (hw4.mono (Nat.le_trans hw2.size hw3.size))).mono hZ)
end Go.Proofs.YtkgihmhehkaocaaGreat

/- The same unit at each site, and which lists have small numbers, as the program and the law find it.
Conditions: those written at each theorem. -/
namespace Go.Proofs.YtkgihmhehkaocaaGreat
set_option linter.unusedVariables false
set_option linter.unusedSimpArgs false
set_option maxRecDepth 1000000
open Go.RowKit
open Um Tm

/-! ### small numbers -/
/-- all N are 1 or 2 -/
def N12L (G : List Q) : Prop := ∀ (i : Nat) (x : Q), G[i]? = some x → 1 ≤ x.n ∧ x.n ≤ 2
set_option maxHeartbeats 1600000 in
theorem small4_any (ao : Option Addr) (cap : Nat) (G : List Q) (d : Bool) (w : World) (h : LiesO w ao G) (hlen : G.length ≤ 1000000) (hd : (N12L G ∧ d = true) ∨ (¬ N12L G ∧ d = false)) : Calls Tryz.prog 15 #[.slice ao G.length cap] w fun e w' => e = .returned (.bool d) ∧ Below w.heap.size w w' := by
  have H := Lib.hid h
  have HD := Lib.hid hd
  clear h hd
  go_enter Tryz.func15, Tryz.ntmps15
  go_wp2
  go_loopw [3] (fun q wr => ∃ i : Nat, i ≤ G.length ∧ q = .int .i64 i ∧ Hid (∀ (j : Nat) (x : Q), j < i → G[j]? = some x → 1 ≤ x.n ∧ x.n ≤ 2) ∧ Hid (Below w.heap.size w wr)) (fun q _ => G.length - (intOf q).toNat)
  case atStart => exact ⟨0, by omega, rfl, Lib.hid (fun j x hj => by omega), Lib.hid (Below.refl _ _)⟩
  case round =>
    obtain ⟨i, hi, rfl, HS, HB⟩ := hrel
    by_cases hlt : i < G.length
    · have ii : (i : Int) < (G.length : Int) := by omega
      have hx := List.getElem?_eq_getElem hlt
      generalize G[i] = x at *
      obtain ⟨bl, off, rfl, hl⟩ : ∃ b f, ao = some ⟨b, f, none⟩ ∧ Lies w b f G := by
        rcases H.out with h | h
        · rw [h] at hlt; exact absurd hlt (by simp)
        · exact h
      obtain ⟨c0, c1, c2, c3, c4⟩ := (hl.later HB.out) i x hx
      have lb := World.block_lt_of_cell? _ _ c4
      by_cases h1 : x.n < 1
      · have hno : d = false := by
          rcases HD.out with ⟨h, _⟩ | ⟨_, h⟩
          · have := (h i x hx).1; omega
          · exact h
        have j1 : decide (x.n < 1) = true := by simpa using h1
        subst hno
        clear hx hl
        go_wp2
        go_ret
        exact ⟨rfl, HB.out⟩
      · by_cases h2 : x.n > 2
        · have hno : d = false := by
            rcases HD.out with ⟨h, _⟩ | ⟨_, h⟩
            · have := (h i x hx).2; omega
            · exact h
          subst hno
          clear hx hl
          go_wp2
          go_ret
          exact ⟨rfl, HB.out⟩
        · have HS2 : Hid (∀ (j : Nat) (x : Q), j < i + 1 → G[j]? = some x → 1 ≤ x.n ∧ x.n ≤ 2) := Lib.hid (fun j y hj hy => by
            by_cases hji : j = i
            · subst hji; rw [hx] at hy; cases hy; omega
            · exact HS.out j y (by omega) hy)
          clear hx hl
          go_wp2
          exact ⟨⟨i + 1, by omega, by go_num, HS2, HB⟩, by simp [intOf]; omega⟩
    · obtain rfl : i = G.length := by omega
      have hyes : d = true := by
        rcases HD.out with ⟨_, h⟩ | ⟨h, _⟩
        · exact h
        · exact absurd (fun j x hx => HS.out j x (List.getElem?_eq_some_iff.1 hx).1 hx) h
      subst hyes
      go_wp2
      go_ret
      exact ⟨rfl, HB.out⟩
end Go.Proofs.YtkgihmhehkaocaaGreat

/- Closed facts about the whole program, which each statement's frame asks: each evaluated once.
Conditions: none. -/
namespace Go.Proofs.YtkgihmhehkaocaaGreat
set_option linter.unusedVariables false
set_option linter.unusedSimpArgs false
set_option maxRecDepth 1000000
open Go Go.Proofs

theorem band {a b : Bool} (ha : a = true) (hb : b = true) : (a && b) = true := by rw [ha, hb]; rfl
theorem jf1 : (laidOutB Tryz.prog) = true := by kernel_rfl
theorem jf2 : (mapsRowed Tryz.prog) = true := by kernel_rfl
theorem jf6 : ((Tryz.prog.stops == [])) = true := by kernel_rfl
theorem jf8 : ((Tryz.prog.stopKnobs == [])) = true := by kernel_rfl
theorem jf24 : (Tryz.prog.stopsHeard) = true := by kernel_rfl
theorem jf25 : (Tryz.prog.mayEnter) = true := by kernel_rfl
theorem jf26 : (false == Tryz.prog.liftsFinal) = true := by kernel_rfl
theorem jf27 : (Tryz.prog.make == some Make.cut) = true := by kernel_rfl
end Go.Proofs.YtkgihmhehkaocaaGreat

/- What the laws of chapter 2 share: fields and paths as arguments, lists that are read within a drawn region, long fields.
Conditions: those written at each theorem. -/
namespace Go.Proofs.YtkgihmhehkaocaaGreat
set_option linter.unusedVariables false
set_option linter.unusedSimpArgs false
set_option maxRecDepth 1000000
open Go.ChangeShapes Go.WideShapes Go.ChangeAt Go.RowKit
open Um

section
open Go.ChangeShapes Go.WideShapes Go.ChangeAt Go.RowKit Go.Joins Go.Deep
variable {H : Type} {enc : TypeId × Value → H} {w : World} {base : Nat} {spare : Nat → Bool} {held : Bool}
theorem cellsF : Tryz.prog.cellsOf 25 = 4 := by kernel_rfl
theorem cellsA3 : Tryz.prog.cellsOf 22 = 3 := by kernel_rfl
theorem cellsUs : Tryz.prog.cellsOf 23 = 1 := by kernel_rfl
theorem open_field {r : Reach} {b0 : Nat} {v : Value} {d : DataW H} {p : List MemPlace} (hv : Value.okWide Tryz.prog w r b0 25 v) (h : DataW.Trod enc Tryz.prog w base spare held 25 v d p) : ∃ (x y z : Int) (ao : Option Addr) (L : List Q) (cap : Nat), v = .agg #[.int .i64 x, .int .i64 y, .int .i64 z, .slice ao L.length cap] ∧ L.length ≤ maxLen ∧ LiesO w ao L := by
  obtain ⟨cs, rfl, hsz⟩ := okWide_struct Tryz.underlying25 hv
  obtain ⟨ls⟩ := cs
  match ls, hsz.trans cellsF with
  | [c0, c1, c2, c3], _ =>
    obtain ⟨fuel, hf⟩ := h
    obtain ⟨xs, n, _, _, _, hlen, hg⟩ := DataW.trod_struct Tryz.underlying25 hf
    match xs, hlen with
    | [y0, y1], _ =>
      have g0' : DataW.trod enc Tryz.prog w base spare held n 22 [c0, c1, c2] = some y0 := by simpa [Value.cells, cellsA3] using hg 0 _ rfl
      have g1' : DataW.trod enc Tryz.prog w base spare held n 23 [c3] = some y1 := by simpa [Value.cells, cellsUs] using hg 1 _ rfl
      obtain ⟨ao, L, cap, e3, hl, hm⟩ := trod_units g1'
      obtain ⟨zs, n', _, _, _, hlen', hg'⟩ := DataW.trod_array Tryz.underlying22 g0'
      match zs, hlen' with
      | [z0, z1, z2], _ =>
        obtain ⟨a, e0, _, _⟩ := DataW.trod_int Tryz.underlying3 (show DataW.trod enc Tryz.prog w base spare held n' 3 [c0] = some z0 by simpa [Value.cells, cells3] using hg' 0 (by omega))
        obtain ⟨b, e1, _, _⟩ := DataW.trod_int Tryz.underlying3 (show DataW.trod enc Tryz.prog w base spare held n' 3 [c1] = some z1 by simpa [Value.cells, cells3] using hg' 1 (by omega))
        obtain ⟨c, e2, _, _⟩ := DataW.trod_int Tryz.underlying3 (show DataW.trod enc Tryz.prog w base spare held n' 3 [c2] = some z2 by simpa [Value.cells, cells3] using hg' 2 (by omega))
        simp at e0 e1 e2 e3
        subst e0 e1 e2 e3
        exact ⟨a, b, c, ao, L, cap, rfl, hl, hm⟩
end
section
open Go.ChangeShapes Go.WideShapes Go.ChangeAt Go.RowKit Go.Joins Go.Deep
variable {H : Type} {enc : TypeId × Value → H} {w : World} {base : Nat} {spare : Nat → Bool} {held : Bool}
end

end Go.Proofs.YtkgihmhehkaocaaGreat
