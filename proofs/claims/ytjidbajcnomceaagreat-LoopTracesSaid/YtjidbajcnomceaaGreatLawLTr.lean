/- LoopTraces: the trace along a path is the document's, for all fields and paths.
Conditions: none. -/
import Derived.Test.YtjidbajcnomceaaGreatLtC
import Derived.Test.YtjidbajcnomceaaGreatLoopKn
import Derived.Test.YtjidbajcnomceaaGreatOpen4
import Derived.Test.YtjidbajcnomceaaGreatJFacts
namespace Go.Proofs.YtjidbajcnomceaaGreat
set_option linter.unusedVariables false
set_option linter.unusedSimpArgs false
set_option maxRecDepth 1000000
open Go.ChangeShapes Go.WideShapes Go.ChangeAt Go.RowKit
open Um Tm

set_option maxHeartbeats 800000 in
theorem loopTraces_longF (a b c s : Int) (fo ao : Option Addr) (n cap m pc : Nat) (w : World) (hn : 100 < n) : Calls Tryz.prog 3 #[.agg #[.int .i64 a, .int .i64 b, .int .i64 c, .slice fo n cap], .agg #[.int .i64 s, .slice ao m pc]] w fun e w' => e = .returned (.bool true) ∧ Below w.heap.size w w' := by
  have kn := known3_any
  have lg := fun W : World => long_any a b c fo cap n true W (.inr ⟨hn, rfl⟩)
  go_enter Tryz.func3, Tryz.ntmps3
  go_wp2_with (first | ((with_reducible refine (lg _).mono ?_); rintro e w1 ⟨rfl, hw1⟩; have hc1 := Tail.cells hw1; have s1 := hw1.size; (try simp at s1); (try have z1_0 : w.heap.size < w1.heap.size := (by omega)); (try have z1_1 : w.heap.size + 1 < w1.heap.size := (by omega)); clear s1) | ((with_reducible refine (kn _).mono ?_); rintro e w2 ⟨rfl, hw2⟩; have hc2 := Tail.cells hw2; have s2 := hw2.size; (try simp at s2); (try have z2_0 : w.heap.size < w2.heap.size := (by omega)); (try have z2_1 : w.heap.size + 1 < w2.heap.size := (by omega)); (try have z2_2 : w1.heap.size < w2.heap.size := (by omega)); clear s2))
  go_ret
  exact ⟨rfl, by repeat (first | (with_reducible exact Below.refl _ _) | (with_reducible refine Below.setCell ?_ ?_ _) | (with_reducible refine Below.drew ?_) | (with_reducible refine Below.alloc ?_ ?_ _) | (with_reducible refine Below.trans ?_ (Below.mono hw2 ?_)) | (with_reducible refine Below.trans ?_ (Below.mono hw1 ?_)) | (with_reducible exact hw2.size) | (with_reducible exact hw1.size) | omega | (simp <;> omega) | (simp <;> (have s := hw2.size; omega)) | (simp <;> (have s := hw1.size; omega)) | (have s0 := hw2.size; (try simp at s0); have s1 := hw1.size; (try simp at s1); (try simp); omega))⟩
set_option maxHeartbeats 800000 in
theorem loopTraces_longP (a b c s : Int) (fo ao : Option Addr) (n cap m pc : Nat) (w : World) (hn : n ≤ 100) (hm : 100 < m) : Calls Tryz.prog 3 #[.agg #[.int .i64 a, .int .i64 b, .int .i64 c, .slice fo n cap], .agg #[.int .i64 s, .slice ao m pc]] w fun e w' => e = .returned (.bool true) ∧ Below w.heap.size w w' := by
  have kn := known3_any
  have lg := fun W : World => long_any a b c fo cap n false W (.inl ⟨hn, rfl⟩)
  have hm' : (100 : Int) < (m : Int) := by omega
  go_enter Tryz.func3, Tryz.ntmps3
  go_wp2_with (first | ((with_reducible refine (lg _).mono ?_); rintro e w1 ⟨rfl, hw1⟩; have hc1 := Tail.cells hw1; have s1 := hw1.size; (try simp at s1); (try have z1_0 : w.heap.size < w1.heap.size := (by omega)); (try have z1_1 : w.heap.size + 1 < w1.heap.size := (by omega)); clear s1) | ((with_reducible refine (kn _).mono ?_); rintro e w2 ⟨rfl, hw2⟩; have hc2 := Tail.cells hw2; have s2 := hw2.size; (try simp at s2); (try have z2_0 : w.heap.size < w2.heap.size := (by omega)); (try have z2_1 : w.heap.size + 1 < w2.heap.size := (by omega)); (try have z2_2 : w1.heap.size < w2.heap.size := (by omega)); clear s2))
  go_ret
  exact ⟨rfl, by repeat (first | (with_reducible exact Below.refl _ _) | (with_reducible refine Below.setCell ?_ ?_ _) | (with_reducible refine Below.drew ?_) | (with_reducible refine Below.alloc ?_ ?_ _) | (with_reducible refine Below.trans ?_ (Below.mono hw2 ?_)) | (with_reducible refine Below.trans ?_ (Below.mono hw1 ?_)) | (with_reducible exact hw2.size) | (with_reducible exact hw1.size) | omega | (simp <;> omega) | (simp <;> (have s := hw2.size; omega)) | (simp <;> (have s := hw1.size; omega)) | (have s0 := hw2.size; (try simp at s0); have s1 := hw1.size; (try simp at s1); (try simp); omega))⟩
set_option maxHeartbeats 3200000 in
theorem loopTraces_same (a b c s r : Int) (x y : Int) (fo ao : Option Addr) (L : List Q) (l : List Int) (cap pc : Nat) (w : World) (hn : L.length ≤ 100) (hm : l.length ≤ 100) (hL : LiesO w fo L) (hl : LiesOI w ao l)
    (c1 : ∀ W : World, LiesO W fo L → LiesOI W ao l → Calls Tryz.prog 10 #[.agg #[.int .i64 a, .int .i64 b, .int .i64 c, .slice fo L.length cap], .int .i64 s, .slice ao l.length pc] W fun e w' => e = .returned (.tuple #[.agg #[.int .i64 x, .int .i64 y], .int .i64 r]) ∧ Below W.heap.size W w')
    (c2 : ∀ W : World, LiesO W fo L → LiesOI W ao l → Calls Tryz.prog 11 #[.agg #[.int .i64 a, .int .i64 b, .int .i64 c, .slice fo L.length cap], .int .i64 s, .slice ao l.length pc] W fun e w' => e = .returned (.tuple #[.agg #[.int .i64 x, .int .i64 y], .int .i64 r]) ∧ Below W.heap.size W w') : Calls Tryz.prog 3 #[.agg #[.int .i64 a, .int .i64 b, .int .i64 c, .slice fo L.length cap], .agg #[.int .i64 s, .slice ao l.length pc]] w fun e w' => e = .returned (.bool true) ∧ Below w.heap.size w w' := by
  have kn := known3_any
  have lg := fun W : World => long_any a b c fo cap L.length false W (.inl ⟨hn, rfl⟩)
  have hm' : ¬ (100 : Int) < (l.length : Int) := by omega
  have H := Lib.hid hL
  have HP := Lib.hid hl
  clear hL hl hn hm
  go_enter Tryz.func3, Tryz.ntmps3
  go_wp2_with (first | ((with_reducible refine (lg _).mono ?_); rintro e w1 ⟨rfl, hw1⟩; have hc1 := Tail.cells hw1; have s1 := hw1.size; (try simp at s1); (try have z1_0 : w.heap.size < w1.heap.size := (by omega)); (try have z1_1 : w.heap.size + 1 < w1.heap.size := (by omega)); clear s1) | ((with_reducible refine (c1 _ (H.out.later (by repeat (first | (with_reducible exact Below.refl _ _) | (with_reducible refine Below.setCell ?_ ?_ _) | (with_reducible refine Below.drew ?_) | (with_reducible refine Below.alloc ?_ ?_ _) | (with_reducible refine Below.trans ?_ (Below.mono hw1 ?_)) | (with_reducible exact hw1.size) | omega | (simp <;> omega) | (simp <;> (have s := hw1.size; omega)) | (have s0 := hw1.size; (try simp at s0); (try simp); omega)))) (HP.out.later (by repeat (first | (with_reducible exact Below.refl _ _) | (with_reducible refine Below.setCell ?_ ?_ _) | (with_reducible refine Below.drew ?_) | (with_reducible refine Below.alloc ?_ ?_ _) | (with_reducible refine Below.trans ?_ (Below.mono hw1 ?_)) | (with_reducible exact hw1.size) | omega | (simp <;> omega) | (simp <;> (have s := hw1.size; omega)) | (have s0 := hw1.size; (try simp at s0); (try simp); omega))))).mono ?_); rintro e w2 ⟨rfl, hw2⟩; have hc2 := Tail.cells hw2; have s2 := hw2.size; (try simp at s2); (try have z2_0 : w.heap.size < w2.heap.size := (by omega)); (try have z2_1 : w.heap.size + 1 < w2.heap.size := (by omega)); (try have z2_2 : w1.heap.size < w2.heap.size := (by omega)); clear s2) | ((with_reducible refine (c2 _ (H.out.later (by repeat (first | (with_reducible exact Below.refl _ _) | (with_reducible refine Below.setCell ?_ ?_ _) | (with_reducible refine Below.drew ?_) | (with_reducible refine Below.alloc ?_ ?_ _) | (with_reducible refine Below.trans ?_ (Below.mono hw2 ?_)) | (with_reducible refine Below.trans ?_ (Below.mono hw1 ?_)) | (with_reducible exact hw2.size) | (with_reducible exact hw1.size) | omega | (simp <;> omega) | (simp <;> (have s := hw2.size; omega)) | (simp <;> (have s := hw1.size; omega)) | (have s0 := hw2.size; (try simp at s0); have s1 := hw1.size; (try simp at s1); (try simp); omega)))) (HP.out.later (by repeat (first | (with_reducible exact Below.refl _ _) | (with_reducible refine Below.setCell ?_ ?_ _) | (with_reducible refine Below.drew ?_) | (with_reducible refine Below.alloc ?_ ?_ _) | (with_reducible refine Below.trans ?_ (Below.mono hw2 ?_)) | (with_reducible refine Below.trans ?_ (Below.mono hw1 ?_)) | (with_reducible exact hw2.size) | (with_reducible exact hw1.size) | omega | (simp <;> omega) | (simp <;> (have s := hw2.size; omega)) | (simp <;> (have s := hw1.size; omega)) | (have s0 := hw2.size; (try simp at s0); have s1 := hw1.size; (try simp at s1); (try simp); omega))))).mono ?_); rintro e w3 ⟨rfl, hw3⟩; have hc3 := Tail.cells hw3; have s3 := hw3.size; (try simp at s3); (try have z3_0 : w.heap.size < w3.heap.size := (by omega)); (try have z3_1 : w.heap.size + 1 < w3.heap.size := (by omega)); (try have z3_2 : w1.heap.size < w3.heap.size := (by omega)); (try have z3_3 : w2.heap.size < w3.heap.size := (by omega)); clear s3) | ((with_reducible refine (kn _).mono ?_); rintro e w4 ⟨rfl, hw4⟩; have hc4 := Tail.cells hw4; have s4 := hw4.size; (try simp at s4); (try have z4_0 : w.heap.size < w4.heap.size := (by omega)); (try have z4_1 : w.heap.size + 1 < w4.heap.size := (by omega)); (try have z4_2 : w1.heap.size < w4.heap.size := (by omega)); (try have z4_3 : w2.heap.size < w4.heap.size := (by omega)); (try have z4_4 : w3.heap.size < w4.heap.size := (by omega)); clear s4))
  go_ret
  exact ⟨rfl, by repeat (first | (with_reducible exact Below.refl _ _) | (with_reducible refine Below.setCell ?_ ?_ _) | (with_reducible refine Below.drew ?_) | (with_reducible refine Below.alloc ?_ ?_ _) | (with_reducible refine Below.trans ?_ (Below.mono hw4 ?_)) | (with_reducible refine Below.trans ?_ (Below.mono hw3 ?_)) | (with_reducible refine Below.trans ?_ (Below.mono hw2 ?_)) | (with_reducible refine Below.trans ?_ (Below.mono hw1 ?_)) | (with_reducible exact hw4.size) | (with_reducible exact hw3.size) | (with_reducible exact hw2.size) | (with_reducible exact hw1.size) | omega | (simp <;> omega) | (simp <;> (have s := hw4.size; omega)) | (simp <;> (have s := hw3.size; omega)) | (simp <;> (have s := hw2.size; omega)) | (simp <;> (have s := hw1.size; omega)) | (have s0 := hw4.size; (try simp at s0); have s1 := hw3.size; (try simp at s1); have s2 := hw2.size; (try simp at s2); have s3 := hw1.size; (try simp at s3); (try simp); omega))⟩

theorem loopTraces_walk (a b c : Int) (fo : Option Addr) (L : List Q) (cap : Nat) (s : Int) (ao : Option Addr) (l : List Int) (pc : Nat) (w : World) (hc : L.length ≤ maxLen) (hL : LiesO w fo L) (hlc : l.length ≤ pc) (hpc : pc ≤ maxLen) (hl : LiesOI w ao l) : Calls Tryz.prog 3 #[.agg #[.int .i64 a, .int .i64 b, .int .i64 c, .slice fo L.length cap], .agg #[.int .i64 s, .slice ao l.length pc]] w fun e w' => e = .returned (.bool true) ∧ Below w.heap.size w w' := by
  by_cases hn : 100 < L.length
  · exact loopTraces_longF a b c s fo ao _ cap _ pc w hn
  · by_cases hm : 100 < l.length
    · exact loopTraces_longP a b c s fo ao _ cap _ pc w (by omega) hm
    · obtain ⟨r, hr⟩ := asR_ex a b c L s l
      by_cases h0 : r = 0
      · subst h0
        obtain ⟨bl, off, rfl, hli⟩ := fld_some (Fl_fldR (asR_ok hr).1) hL
        have hF := (asR_ok hr).1
        have hne : L ≠ [] := by
          rintro rfl
          have h3 := hF.n
          obtain ⟨-, -, p3, -⟩ := mul_rng hF.z.a1 hF.z.a4 hF.z.b1 hF.z.b4 hF.z.c1 hF.z.c4
          simp at h3; omega
        have get : ∀ W : World, LiesO W (some ⟨bl, off, none⟩) L → Lies W bl off L := fun W h => by
          rcases h with h | ⟨b1, o1, e, h⟩
          · exact absurd h hne
          · simp at e
            obtain ⟨rfl, rfl⟩ := e
            exact h
        obtain ⟨-, s0, s1, hs, h8⟩ := asR_ok hr
        have hi := closed_iff hF.z s0 s1 l
        by_cases hcl : Clo a b c l
        · exact loopTraces_same a b c s 0 _ _ _ _ L l cap pc w (by omega) (by omega) hL hl (fun W h1 h2 => traceL_ok a b c s bl off ao cap pc L l W (get W h1) h2 hr (hi.2 hcl)) (fun W h1 h2 => refTraceL_ok a b c s bl off ao cap pc L l W (get W h1) h2 hr hcl)
        · exact loopTraces_same a b c s 6 0 0 _ _ L l cap pc w (by omega) (by omega) hL hl (fun W h1 h2 => traceL_open a b c s bl off ao cap pc L l W (get W h1) h2 hr fun e => hcl (hi.1 e)) (fun W h1 h2 => refTraceL_open a b c s bl off ao cap pc L l W (get W h1) h2 hr hcl)
      · exact loopTraces_same a b c s r 0 0 fo ao L l cap pc w (by omega) (by omega) hL hl (fun W h1 h2 => traceL_bad a b c s r fo ao cap pc L l W h1 h2 hr h0 (by omega) (by omega)) (fun W h1 h2 => refTraceL_bad a b c s r fo ao cap pc L l W h1 h2 hr h0 (by omega) (by omega))

/-! ### The statement of the law LoopTraces, out of its walk -/
set_option maxRecDepth 100000 in
theorem loopTraces_lifted (os : Os) (started : os.Started) (H : Type) (enc : TypeId × Value → H) :
    ReturnsInHanded {} Tryz.checked os 3 .any (Rows.loopTracesSpec.pre6 enc Tryz.prog Tryz.f3 Rows.loopTracesRow.domain false) (Rows.loopTracesSpec.post enc Tryz.prog Tryz.f3 false true false false) := by
  refine returnsInHanded_of_change (C := Tryz.checked) own started (by kernel_rfl) Tryz.func3
    (ChangeSpec.witness6 (enc := enc) (C := Tryz.checked) false ⟨#[], #[.agg #[.int .i64 0, .int .i64 0, .int .i64 0, .slice none 0 0], .agg #[.int .i64 0, .slice none 0 0]], []⟩ 8 (by kernel_rfl) (by kernel_rfl) (by kernel_rfl) (by kernel_rfl)) ?_
  intro W base args ds gs before hval0 hW hcnd _
  have hval : ∀ (j : Nat) t v, Tryz.f3.params[j]? = some t → args[j]? = some v → Value.okWide Tryz.prog W .any base t v := hval0
  have hW' := hW
  obtain ⟨p, q, hA0, hV, rfl, hfz, hnd⟩ := hW
  have hA : DataW.TrodAll enc Tryz.prog W 0 (fun _ => true) true Tryz.f3.params.toList args.toList ds p := hA0
  rw [Tryz.params3] at hA hval
  obtain ⟨v0, vs0, d0, ds0, p0, q0, hargs, rfl, rfl, h0, r0⟩ := trodAll_cons hA
  obtain ⟨v1, vs1, d1, ds1, p1, q1, rfl, rfl, rfl, h1, r1⟩ := trodAll_cons r0
  obtain ⟨rfl, rfl, rfl⟩ := trodAll_nil r1
  obtain rfl : args = #[v0, v1] := by cases args; simp_all
  obtain ⟨rfl, rfl⟩ := trodVars_none hV
  have k0 := h0
  have lt0 : ∀ x ∈ p0, x.block < W.heap.size := by obtain ⟨m, hm⟩ := k0; exact DataW.trod_lt m _ _ _ hm
  obtain ⟨x0, y0, z0, ao0, L0, cap0, rfl, hl0, hm0⟩ := open_field (hval 0 25 v0 rfl rfl) h0
  have k1 := h1
  have lt1 : ∀ x ∈ p1, x.block < W.heap.size := by obtain ⟨m, hm⟩ := k1; exact DataW.trod_lt m _ _ _ hm
  obtain ⟨s1, ao1, l1, cap1, rfl, hl1, hc1, hm1⟩ := open_path (hval 1 28 v1 rfl rfl) h1
  clear hA0 hval0
  refine (loopTraces_walk x0 y0 z0 ao0 L0 cap0 s1 ao1 l1 cap1 W hl0 hm0 hl1 hc1 hm1).mono fun e W' ⟨he, bel⟩ => ?_
  subst he
  exact ⟨_, rfl, _, _, _, [], _, [], hW', trodAll_mk1 (shut_bool Tryz.underlying4 _), (trodAll_cons_mk (Below.trod laidOut (by kernel_rfl) (of_decide_eq_true (by kernel_rfl)) k0 bel lt0) (trodAll_cons_mk (Below.trod laidOut (by kernel_rfl) (of_decide_eq_true (by kernel_rfl)) k1 bel lt1) trodAll_mk0)), rfl, bel.frame _, fun h => by cases h⟩

theorem loopTraces_jf9 : (Rows.loopTracesRow.inPlace == Tryz.prog.inPlace 3) = true := by kernel_rfl
theorem loopTraces_jf10 : (Rows.loopTracesRow.unfollowed == Tryz.prog.unfollowed 3) = true := by kernel_rfl
theorem loopTraces_jf11 : (Rows.loopTracesRow.recurses == Tryz.prog.recurses 3) = true := by kernel_rfl
theorem loopTraces_jf12 : (Rows.loopTracesRow.named == Tryz.prog.varsNamed 3) = true := by kernel_rfl
theorem loopTraces_facts : joinedFacts Tryz.prog 3 Tryz.f3 Rows.loopTracesSpec Rows.loopTracesRow = true := by
  unfold joinedFacts
  exact (band (band (band (band (band (band (band (band (band (band (band (band (band (band (band (band (band (band (band (band (band (band (band (band (band (band (band (band (band (band (band (by kernel_rfl) jf1) jf2) (by kernel_rfl)) (by kernel_rfl)) (by kernel_rfl)) jf6) (by kernel_rfl)) jf8) loopTraces_jf9) loopTraces_jf10) loopTraces_jf11) loopTraces_jf12) (by kernel_rfl)) (by kernel_rfl)) (by kernel_rfl)) (by kernel_rfl)) (by kernel_rfl)) (by kernel_rfl)) (by kernel_rfl)) (by kernel_rfl)) (by kernel_rfl)) (by kernel_rfl)) (by kernel_rfl)) jf24) jf25) jf26) jf27) (by kernel_rfl)) (by kernel_rfl)) (by kernel_rfl)) (by kernel_rfl))

theorem loopTraces_over : Rows.loopTracesRow.holds Tryz.pinned (OpenSpec.ofChange Rows.loopTracesSpec) :=
  OpenClaim.holds_of_wide 3 Tryz.f3 rfl rfl rfl rfl rfl rfl rfl ⟨rfl, rfl, rfl, rfl, rfl⟩ rfl rfl rfl rfl rfl (by kernel_rfl) Tryz.func3 loopTraces_facts
    (of_decide_eq_true (by kernel_rfl)) (by unfold Func.isWrapper; first | (rw [if_pos (by decide +kernel)]; kernel_rfl) | (rw [if_neg (by decide +kernel)]; exact ⟨rfl, rfl⟩))
    (fun os started H enc _ => loopTraces_lifted os started H enc)

theorem loopTraces_holds : Rows.LoopTracesSaid := loopTraces_over
#print axioms loopTraces_holds

end Go.Proofs.YtjidbajcnomceaaGreat
