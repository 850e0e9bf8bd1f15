/- LoopValues: the value of a sum of loops is the document's, for all fields, sites and sums.
Conditions: none. -/
import Derived.Test.YtjidbajcnomceaaGreatLwC
import Derived.Test.YtjidbajcnomceaaGreatLooC
import Derived.Test.YtjidbajcnomceaaGreatOpen4
import Derived.Test.YtjidbajcnomceaaGreatOpenTm
import Derived.Test.YtjidbajcnomceaaGreatJFacts
namespace Go.Proofs.YtjidbajcnomceaaGreat
set_option linter.unusedVariables false
set_option linter.unusedSimpArgs false
set_option maxRecDepth 1000000
open Go.ChangeShapes Go.WideShapes Go.ChangeAt Go.RowKit
open Um Tm Lm

set_option maxHeartbeats 800000 in
theorem loopValues_longF (a b c s : Int) (fo lo : Option Addr) (n cap m lc : Nat) (w : World) (hn : 100 < n) : Calls Tryz.prog 7 #[.agg #[.int .i64 a, .int .i64 b, .int .i64 c, .slice fo n cap], .int .i64 s, .slice lo m lc] w fun e w' => e = .returned (.bool true) ∧ Below w.heap.size w w' := by
  have kn := known3_any
  have lg := fun W : World => long_any a b c fo cap n true W (.inr ⟨hn, rfl⟩)
  go_enter Tryz.func7, Tryz.ntmps7
  go_wp2_with (fail)
  refine (lg _).mono ?_
  rintro e w1 ⟨rfl, hw1⟩
  go_wp2_with (fail)
  refine (kn _).mono ?_
  rintro e w2 ⟨rfl, hw2⟩
  go_wp2
  go_ret
  exact ⟨rfl, by repeat (first | (with_reducible exact Below.refl _ _) | (with_reducible refine Below.setCell ?_ ?_ _) | (with_reducible refine Below.drew ?_) | (with_reducible refine Below.alloc ?_ ?_ _) | (with_reducible refine Below.trans ?_ (Below.mono hw2 ?_)) | (with_reducible refine Below.trans ?_ (Below.mono hw1 ?_)) | (with_reducible exact hw2.size) | (with_reducible exact hw1.size) | omega | (simp <;> omega) | (simp <;> (have s := hw2.size; omega)) | (simp <;> (have s := hw1.size; omega)) | (have s0 := hw2.size; (try simp at s0); have s1 := hw1.size; (try simp at s1); (try simp); omega))⟩
set_option maxHeartbeats 800000 in
theorem loopValues_many (a b c s : Int) (fo lo : Option Addr) (n cap lc : Nat) (l : List E) (w : World) (hn : n ≤ 100) (h : Trs w lo l) (hf : ¬ few l) (hl : l.length ≤ maxLen) (hp : ∀ e ∈ l, e.p.length ≤ maxLen) : Calls Tryz.prog 7 #[.agg #[.int .i64 a, .int .i64 b, .int .i64 c, .slice fo n cap], .int .i64 s, .slice lo l.length lc] w fun e w' => e = .returned (.bool true) ∧ Below w.heap.size w w' := by
  have kn := known3_any
  have lg := fun W : World => long_any a b c fo cap n false W (.inl ⟨hn, rfl⟩)
  have cM := fun W h => many_yes lo lc l W h hf hl hp
  have H := Lib.hid h
  clear h hf hp
  go_enter Tryz.func7, Tryz.ntmps7
  go_wp2_with (fail)
  refine (lg _).mono ?_
  rintro e w1 ⟨rfl, hw1⟩
  go_wp2_with (fail)
  refine (cM _ (H.out.later (by repeat (first | (with_reducible exact Below.refl _ _) | (with_reducible refine Below.setCell ?_ ?_ _) | (with_reducible refine Below.drew ?_) | (with_reducible refine Below.alloc ?_ ?_ _) | (with_reducible refine Below.trans ?_ (Below.mono hw1 ?_)) | (with_reducible exact hw1.size) | omega | (simp <;> omega) | (simp <;> (have s := hw1.size; omega)) | (have s0 := hw1.size; (try simp at s0); (try simp); omega))))).mono ?_
  rintro e w2 ⟨rfl, hw2⟩
  go_wp2_with (fail)
  refine (kn _).mono ?_
  rintro e w3 ⟨rfl, hw3⟩
  go_wp2
  go_ret
  exact ⟨rfl, by repeat (first | (with_reducible exact Below.refl _ _) | (with_reducible refine Below.setCell ?_ ?_ _) | (with_reducible refine Below.drew ?_) | (with_reducible refine Below.alloc ?_ ?_ _) | (with_reducible refine Below.trans ?_ (Below.mono hw3 ?_)) | (with_reducible refine Below.trans ?_ (Below.mono hw2 ?_)) | (with_reducible refine Below.trans ?_ (Below.mono hw1 ?_)) | (with_reducible exact hw3.size) | (with_reducible exact hw2.size) | (with_reducible exact hw1.size) | omega | (simp <;> omega) | (simp <;> (have s := hw3.size; omega)) | (simp <;> (have s := hw2.size; omega)) | (simp <;> (have s := hw1.size; omega)) | (have s0 := hw3.size; (try simp at s0); have s1 := hw2.size; (try simp at s1); have s2 := hw1.size; (try simp at s2); (try simp); omega))⟩
set_option maxHeartbeats 3200000 in
theorem loopValues_same (a b c s r x y : Int) (fo lo : Option Addr) (L : List Q) (l : List E) (cap lc : Nat) (w : World) (hn : L.length ≤ 100) (hL : LiesO w fo L) (h : Trs w lo l) (hf : few l)
    (c1 : ∀ W : World, LiesO W fo L → Trs W lo l → Calls Tryz.prog 26 #[.agg #[.int .i64 a, .int .i64 b, .int .i64 c, .slice fo L.length cap], .int .i64 s, .slice lo l.length lc] W fun e w' => e = .returned (.tuple #[.agg #[.int .i64 x, .int .i64 y], .int .i64 r]) ∧ Below W.heap.size W w')
    (c2 : ∀ W : World, LiesO W fo L → Trs W lo l → Calls Tryz.prog 27 #[.agg #[.int .i64 a, .int .i64 b, .int .i64 c, .slice fo L.length cap], .int .i64 s, .slice lo l.length lc] W fun e w' => e = .returned (.tuple #[.agg #[.int .i64 x, .int .i64 y], .int .i64 r]) ∧ Below W.heap.size W w') : Calls Tryz.prog 7 #[.agg #[.int .i64 a, .int .i64 b, .int .i64 c, .slice fo L.length cap], .int .i64 s, .slice lo l.length lc] w fun e w' => e = .returned (.bool true) ∧ Below w.heap.size w w' := by
  have kn := known3_any
  have lg := fun W : World => long_any a b c fo cap L.length false W (.inl ⟨hn, rfl⟩)
  have cM := fun W h => many_no lo lc l W h hf
  have H := Lib.hid hL
  have HP := Lib.hid h
  clear hL h hn hf
  go_enter Tryz.func7, Tryz.ntmps7
  go_wp2_with (fail)
  refine (lg _).mono ?_
  rintro e w1 ⟨rfl, hw1⟩
  have b1 : Below w.heap.size w w1 := by repeat (first | (with_reducible exact Below.refl _ _) | (with_reducible refine Below.setCell ?_ ?_ _) | (with_reducible refine Below.drew ?_) | (with_reducible refine Below.alloc ?_ ?_ _) | (with_reducible refine Below.trans ?_ (Below.mono hw1 ?_)) | (with_reducible exact hw1.size) | omega | (simp <;> omega) | (simp <;> (have s := hw1.size; omega)) | (have s0 := hw1.size; (try simp at s0); (try simp); omega))
  have f1 := Lib.hid ((FW.n1 (w := w) (x := a) (y := b) (z := c) (v := .slice fo L.length cap) (T := 25)).later hw1)
  clear hw1 lg
  obtain ⟨g0, g1, g2, g3, g4, g5⟩ := f1.out
  go_wp2_with (fail)
  refine (cM _ (HP.out.later b1)).mono ?_
  rintro e w2 ⟨rfl, hw2⟩
  have b2 := quiet_below b1 hw2
  have f2 := Lib.hid (f1.out.later hw2)
  clear b1 f1 hw2 cM g0 g1 g2 g3 g4 g5
  obtain ⟨g0, g1, g2, g3, g4, g5⟩ := f2.out
  go_wp2_with (fail)
  refine (c1 _ (H.out.later b2) (HP.out.later b2)).mono ?_
  rintro e w3 ⟨rfl, hw3⟩
  have b3 := quiet_below b2 hw3
  have f3 := Lib.hid (f2.out.later hw3)
  clear b2 f2 hw3 c1 g0 g1 g2 g3 g4 g5
  obtain ⟨g0, g1, g2, g3, g4, g5⟩ := f3.out
  go_wp2_with (fail)
  refine (c2 _ (H.out.later (by repeat (first | (with_reducible exact Below.refl _ _) | (with_reducible refine Below.setCell ?_ ?_ _) | (with_reducible refine Below.drew ?_) | (with_reducible refine Below.alloc ?_ ?_ _) | (with_reducible refine Below.trans ?_ (Below.mono b3 ?_)) | (with_reducible exact b3.size) | omega | (simp <;> omega) | (simp <;> (have s := b3.size; omega)) | (have s0 := b3.size; (try simp at s0); (try simp); omega)))) (HP.out.later (by repeat (first | (with_reducible exact Below.refl _ _) | (with_reducible refine Below.setCell ?_ ?_ _) | (with_reducible refine Below.drew ?_) | (with_reducible refine Below.alloc ?_ ?_ _) | (with_reducible refine Below.trans ?_ (Below.mono b3 ?_)) | (with_reducible exact b3.size) | omega | (simp <;> omega) | (simp <;> (have s := b3.size; omega)) | (have s0 := b3.size; (try simp at s0); (try simp); omega))))).mono ?_
  rintro e w4 ⟨rfl, hw4⟩
  have b4 : Below w.heap.size w w4 := by repeat (first | (with_reducible exact Below.refl _ _) | (with_reducible refine Below.setCell ?_ ?_ _) | (with_reducible refine Below.drew ?_) | (with_reducible refine Below.alloc ?_ ?_ _) | (with_reducible refine Below.trans ?_ (Below.mono hw4 ?_)) | (with_reducible refine Below.trans ?_ (Below.mono b3 ?_)) | (with_reducible exact hw4.size) | (with_reducible exact b3.size) | omega | (simp <;> omega) | (simp <;> (have s := hw4.size; omega)) | (simp <;> (have s := b3.size; omega)) | (have s0 := hw4.size; (try simp at s0); have s1 := b3.size; (try simp at s1); (try simp); omega))
  have k4 := Tail.cells hw4
  have k0 : w4.cell? ⟨w3.heap.size, 0, none⟩ = some (.int .i64 x) := (k4.1 _ _ (by simp)).trans (by simp [go_sem])
  have k1 : w4.cell? ⟨w3.heap.size, 1, none⟩ = some (.int .i64 y) := (k4.1 _ _ (by simp)).trans (by simp [go_sem])
  have k5 : w3.heap.size < w4.heap.size := by have := hw4.size; simp at this; omega
  clear hw4 k4 c2 g0 g1 g2 g3 g4 g5 f3
  go_wp2_with (fail)
  refine (kn _).mono ?_
  rintro e w5 ⟨rfl, hw5⟩
  go_wp2
  go_ret
  exact ⟨rfl, by repeat (first | (with_reducible exact Below.refl _ _) | (with_reducible refine Below.setCell ?_ ?_ _) | (with_reducible refine Below.drew ?_) | (with_reducible refine Below.alloc ?_ ?_ _) | (with_reducible refine Below.trans ?_ (Below.mono hw5 ?_)) | (with_reducible refine Below.trans ?_ (Below.mono b4 ?_)) | (with_reducible exact hw5.size) | (with_reducible exact b4.size) | omega | (simp <;> omega) | (simp <;> (have s := hw5.size; omega)) | (simp <;> (have s := b4.size; omega)) | (have s0 := hw5.size; (try simp at s0); have s1 := b4.size; (try simp at s1); (try simp); omega))⟩
theorem first_open (P : Nat → Prop) (n : Nat) : ∃ j, j ≤ n ∧ (∀ i, i < j → P i) ∧ (j < n → ¬ P j) := by
  induction n with
  | zero => exact ⟨0, by omega, fun i h => by omega, fun h => by omega⟩
  | succ n ih =>
    obtain ⟨j, h1, h2, h3⟩ := ih
    by_cases hj : j < n
    · exact ⟨j, by omega, h2, fun _ => h3 hj⟩
    · obtain rfl : j = n := by omega
      by_cases hp : P j
      · exact ⟨j + 1, by omega, fun i h => by
          by_cases e : i = j
          · rw [e]; exact hp
          · exact h2 i (by omega), fun h => by omega⟩
      · exact ⟨j, by omega, h2, fun _ => hp⟩
theorem loopValues_walk (a b c : Int) (fo : Option Addr) (L : List Q) (cap : Nat) (s : Int) (lo : Option Addr) (l : List E) (lc : Nat) (w : World) (hc : L.length ≤ maxLen) (hL : LiesO w fo L) (hl : l.length ≤ maxLen) (hp : ∀ e ∈ l, e.p.length ≤ maxLen) (h : Trs w lo l) : Calls Tryz.prog 7 #[.agg #[.int .i64 a, .int .i64 b, .int .i64 c, .slice fo L.length cap], .int .i64 s, .slice lo l.length lc] w fun e w' => e = .returned (.bool true) ∧ Below w.heap.size w w' := by
  by_cases hn : 100 < L.length
  · exact loopValues_longF a b c s fo lo _ cap _ lc w hn
  · by_cases hf : few l
    · obtain ⟨r, hr⟩ := asR_ex a b c L s []
      have hf1 := hf.1
      have hf2 : ∀ e ∈ l, e.p.length ≤ 1000000 := fun e he => by have := hf.2 e he; omega
      by_cases h0 : r = 0
      · subst h0
        obtain ⟨bl, off, rfl, hli⟩ := fld_some (Fl_fldR (asR_ok hr).1) hL
        have hF := (asR_ok hr).1
        have hne : L ≠ [] := by
          rintro rfl
          have h3 := hF.n
          obtain ⟨-, -, p3, -⟩ := mul_rng hF.z.a1 hF.z.a4 hF.z.b1 hF.z.b4 hF.z.c1 hF.z.c4
          simp at h3; omega
        have get : ∀ W : World, LiesO W (some ⟨bl, off, none⟩) L → Lies W bl off L := fun W h => by
          rcases h with h | ⟨b1, o1, e, h⟩
          · exact absurd h hne
          · simp at e
            obtain ⟨rfl, rfl⟩ := e
            exact h
        obtain ⟨-, s0, s1, -, -⟩ := asR_ok hr
        by_cases hv : vT (tm l) = 0
        · obtain ⟨j, hj, j1, j2⟩ := first_open (fun i => ∀ (h : i < l.length), en a b c s l[i].p = s) l.length
          have ho : ∀ (h : j < l.length), en a b c s l[j].p ≠ s := fun h e => j2 h fun _ => e
          have C1 := fun W h1 h2 => value3_any a b c s bl off lo cap lc L l j W (get W h1) h2 hF s0 s1 hv hj (fun i h hi => j1 i hi h) ho
          have C2 := fun W h1 h2 => refValue3_any a b c s bl off lo cap lc L l j W (get W h1) h2 hF s0 s1 hv hj (fun i h hi => j1 i hi h) ho
          unfold valV at C1
          unfold valD at C2
          by_cases e : j = l.length
          · subst e
            rw [if_pos rfl] at C1 C2
            have ht : (tm l).take l.length = tm l := List.take_of_length_le (by rw [tm_len]; exact Nat.le_refl _)
            rw [ht] at C1 C2
            have hok := vT_ok hv
            have hV : Val a b c s (tm l) := by
              refine ⟨fun t ht => ?_, fun t ht => ?_, fun t ht => ?_, hok.1⟩
              · exact ⟨(hok.2 t ht).2.2, (hok.2 t ht).2.1⟩
              · obtain ⟨i, hi, rfl⟩ := List.getElem_of_mem ht
                rw [tm_len] at hi
                have := j1 i hi hi
                simpa [tm] using this
              · exact (hok.2 t ht).1
            obtain ⟨e1, e2⟩ := valR_ac hF s0 s1 hV
            have e3 := val_all (vals_rt hF s0 s1 hV).1
            rw [e1] at C1
            rw [e3, e2] at C2
            exact loopValues_same a b c s 0 _ _ _ lo L l cap lc w (by omega) hL h hf C1 C2
          · rw [if_neg e] at C1 C2
            exact loopValues_same a b c s 6 0 0 _ lo L l cap lc w (by omega) hL h hf C1 C2
        · exact loopValues_same a b c s _ 0 0 _ lo L l cap lc w (by omega) hL h hf (fun W h1 h2 => value3_terms a b c s bl off lo cap lc L l W (get W h1) h2 hr hv (by omega) hf2) (fun W h1 h2 => refValue3_terms a b c s bl off lo cap lc L l W (get W h1) h2 hr hv (by omega) hf2)
      · exact loopValues_same a b c s r 0 0 fo lo L l cap lc w (by omega) hL h hf (fun W h1 h2 => value3_bad a b c s r fo lo cap lc L l W h1 h2 hr h0 (by omega)) (fun W h1 h2 => refValue3_bad a b c s r fo lo cap lc L l W h1 h2 hr h0 (by omega))
    · exact loopValues_many a b c s fo lo _ cap lc l w (by omega) h hf hl hp

/-! ### The statement of the law LoopValues, out of its walk -/
set_option maxRecDepth 100000 in
theorem loopValues_lifted (os : Os) (started : os.Started) (H : Type) (enc : TypeId × Value → H) :
    ReturnsInHanded {} Tryz.checked os 7 .any (Rows.loopValuesSpec.pre6 enc Tryz.prog Tryz.f7 Rows.loopValuesRow.domain false) (Rows.loopValuesSpec.post enc Tryz.prog Tryz.f7 false true false false) := by
  refine returnsInHanded_of_change (C := Tryz.checked) own started (by kernel_rfl) Tryz.func7
    (ChangeSpec.witness6 (enc := enc) (C := Tryz.checked) false ⟨#[], #[.agg #[.int .i64 0, .int .i64 0, .int .i64 0, .slice none 0 0], .int .i64 0, .slice none 0 0], []⟩ 8 (by kernel_rfl) (by kernel_rfl) (by kernel_rfl) (by kernel_rfl)) ?_
  intro W base args ds gs before hval0 hW hcnd _
  have hval : ∀ (j : Nat) t v, Tryz.f7.params[j]? = some t → args[j]? = some v → Value.okWide Tryz.prog W .any base t v := hval0
  have hW' := hW
  obtain ⟨p, q, hA0, hV, rfl, hfz, hnd⟩ := hW
  have hA : DataW.TrodAll enc Tryz.prog W 0 (fun _ => true) true Tryz.f7.params.toList args.toList ds p := hA0
  rw [Tryz.params7] at hA hval
  obtain ⟨v0, vs0, d0, ds0, p0, q0, hargs, rfl, rfl, h0, r0⟩ := trodAll_cons hA
  obtain ⟨v1, vs1, d1, ds1, p1, q1, rfl, rfl, rfl, h1, r1⟩ := trodAll_cons r0
  obtain ⟨v2, vs2, d2, ds2, p2, q2, rfl, rfl, rfl, h2, r2⟩ := trodAll_cons r1
  obtain ⟨rfl, rfl, rfl⟩ := trodAll_nil r2
  obtain rfl : args = #[v0, v1, v2] := by cases args; simp_all
  obtain ⟨rfl, rfl⟩ := trodVars_none hV
  have k0 := h0
  have lt0 : ∀ x ∈ p0, x.block < W.heap.size := by obtain ⟨m, hm⟩ := k0; exact DataW.trod_lt m _ _ _ hm
  obtain ⟨x0, y0, z0, ao0, L0, cap0, rfl, hl0, hm0⟩ := open_field (hval 0 25 v0 rfl rfl) h0
  have k1 := h1
  have lt1 : ∀ x ∈ p1, x.block < W.heap.size := by obtain ⟨m, hm⟩ := k1; exact DataW.trod_lt m _ _ _ hm
  obtain ⟨x1, e1, -, -, -⟩ := open_int Tryz.underlying3 (hval 1 3 v1 rfl rfl) h1
  subst e1
  have k2 := h2
  have lt2 : ∀ x ∈ p2, x.block < W.heap.size := by obtain ⟨m, hm⟩ := k2; exact DataW.trod_lt m _ _ _ hm
  obtain ⟨po2, l2, pc2, rfl, hkl2, hkp2, hkt2⟩ := open_terms (hval 2 53 v2 rfl rfl) h2
  clear hA0 hval0
  refine (loopValues_walk x0 y0 z0 ao0 L0 cap0 x1 po2 l2 pc2 W hl0 hm0 hkl2 hkp2 hkt2).mono fun e W' ⟨he, bel⟩ => ?_
  subst he
  exact ⟨_, rfl, _, _, _, [], _, [], hW', trodAll_mk1 (shut_bool Tryz.underlying4 _), (trodAll_cons_mk (Below.trod laidOut (by kernel_rfl) (of_decide_eq_true (by kernel_rfl)) k0 bel lt0) (trodAll_cons_mk (Below.trod laidOut (by kernel_rfl) (of_decide_eq_true (by kernel_rfl)) k1 bel lt1) (trodAll_cons_mk (Below.trod laidOut (by kernel_rfl) (of_decide_eq_true (by kernel_rfl)) k2 bel lt2) trodAll_mk0))), rfl, bel.frame _, fun h => by cases h⟩

theorem loopValues_jf9 : (Rows.loopValuesRow.inPlace == Tryz.prog.inPlace 7) = true := by kernel_rfl
theorem loopValues_jf10 : (Rows.loopValuesRow.unfollowed == Tryz.prog.unfollowed 7) = true := by kernel_rfl
theorem loopValues_jf11 : (Rows.loopValuesRow.recurses == Tryz.prog.recurses 7) = true := by kernel_rfl
theorem loopValues_jf12 : (Rows.loopValuesRow.named == Tryz.prog.varsNamed 7) = true := by kernel_rfl
theorem loopValues_facts : joinedFacts Tryz.prog 7 Tryz.f7 Rows.loopValuesSpec Rows.loopValuesRow = true := by
  unfold joinedFacts
  exact (band (band (band (band (band (band (band (band (band (band (band (band (band (band (band (band (band (band (band (band (band (band (band (band (band (band (band (band (band (band (band (by kernel_rfl) jf1) jf2) (by kernel_rfl)) (by kernel_rfl)) (by kernel_rfl)) jf6) (by kernel_rfl)) jf8) loopValues_jf9) loopValues_jf10) loopValues_jf11) loopValues_jf12) (by kernel_rfl)) (by kernel_rfl)) (by kernel_rfl)) (by kernel_rfl)) (by kernel_rfl)) (by kernel_rfl)) (by kernel_rfl)) (by kernel_rfl)) (by kernel_rfl)) (by kernel_rfl)) (by kernel_rfl)) jf24) jf25) jf26) jf27) (by kernel_rfl)) (by kernel_rfl)) (by kernel_rfl)) (by kernel_rfl))

theorem loopValues_over : Rows.loopValuesRow.holds Tryz.pinned (OpenSpec.ofChange Rows.loopValuesSpec) :=
  OpenClaim.holds_of_wide 7 Tryz.f7 rfl rfl rfl rfl rfl rfl rfl ⟨rfl, rfl, rfl, rfl, rfl⟩ rfl rfl rfl rfl rfl (by kernel_rfl) Tryz.func7 loopValues_facts
    (of_decide_eq_true (by kernel_rfl)) (by unfold Func.isWrapper; first | (rw [if_pos (by decide +kernel)]; kernel_rfl) | (rw [if_neg (by decide +kernel)]; exact ⟨rfl, rfl⟩))
    (fun os started H enc _ => loopValues_lifted os started H enc)

theorem loopValues_holds : Rows.LoopValuesSaid := loopValues_over
#print axioms loopValues_holds

end Go.Proofs.YtjidbajcnomceaaGreat
