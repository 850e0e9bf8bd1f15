/- FermiChecks: which solutions are accepted is what the document says, for all fields, masses, vectors and sources.
Conditions: none. -/
import Derived.Test.YtmnlfojcofdaeaaSane7
import Derived.Test.YtmnlfojcofdaeaaChcC
import Derived.Test.YtmnlfojcofdaeaaLngC
import Derived.Test.YtmnlfojcofdaeaaOpenT
import Derived.Test.YtmnlfojcofdaeaaJFacts
namespace Go.Proofs.Ytmnlfojcofdaeaa
set_option linter.unusedVariables false
set_option linter.unusedSimpArgs false
set_option maxRecDepth 1000000
open Go.ChangeShapes Go.WideShapes Go.ChangeAt Go.RowKit
open Um Tm Fm

set_option maxHeartbeats 3200000 in
theorem fermiChecks_long (a b c m : Int) (ao po qo : Option Addr) (L : List Q) (M N : List Sp) (cap pc qc : Nat) (w : World) (hn : 100 < M.length ∨ 100 < N.length ∨ 200 < L.length) : Calls Try.prog 13 #[.agg #[.int .i64 a, .int .i64 b, .int .i64 c, .slice ao L.length cap], .int .i64 m, .agg #[.slice po M.length pc, .slice qo N.length qc]] w fun e w' => e = .returned (.bool true) ∧ Below w.heap.size w w' := by
  have sn := sane7_any
  have lg := fun (W : World) (sb : Nat) (h1 : W.cell? ⟨sb, 0, none⟩ = some (.slice po M.length pc)) (h2 : W.cell? ⟨sb, 1, none⟩ = some (.slice qo N.length qc)) => long72_any a b c ao po qo cap pc qc L.length M.length N.length sb true W h1 h2 (.inr ⟨hn, rfl⟩)
  go_enter Try.func13, Try.ntmps13
  go_wp2_with (first | ((with_reducible refine (lg _ _ (by simp [go_sem]) (by simp [go_sem])).mono ?_); clear lg; rintro e w1 ⟨rfl, hw1⟩) | ((with_reducible refine (sn _).mono ?_); rintro e w2 ⟨rfl, hw2⟩))
  go_ret
  exact ⟨rfl, by repeat (first | (with_reducible exact Below.refl _ _) | (with_reducible refine Below.setCell ?_ ?_ _) | (with_reducible refine Below.drew ?_) | (with_reducible refine Below.alloc ?_ ?_ _) | (with_reducible refine Below.trans ?_ (Below.mono hw2 ?_)) | (with_reducible refine Below.trans ?_ (Below.mono hw1 ?_)) | (with_reducible exact hw2.size) | (with_reducible exact hw1.size) | omega | (simp <;> omega) | (simp <;> (have s := hw2.size; omega)) | (simp <;> (have s := hw1.size; omega)) | (have s0 := hw2.size; (try simp at s0); have s1 := hw1.size; (try simp at s1); (try simp); omega))⟩
set_option maxHeartbeats 6400000 in
theorem fermiChecks_short (a b c m r : Int) (ao po qo : Option Addr) (L : List Q) (M N : List Sp) (cap pc qc : Nat) (w : World) (hn : ¬ (100 < M.length ∨ 100 < N.length ∨ 200 < L.length)) (hm : LiesO w ao L) (hp : LiesOI w po (fl M)) (hq : LiesOI w qo (fl N))
    (c1 : ∀ W : World, LiesO W ao L → LiesOI W po (fl M) → LiesOI W qo (fl N) → Calls Try.prog 46 #[.agg #[.int .i64 a, .int .i64 b, .int .i64 c, .slice ao L.length cap], .int .i64 m, .slice po M.length pc, .slice qo N.length qc] W fun e w' => e = .returned (.int .i64 r) ∧ Below W.heap.size W w')
    (c2 : ∀ W : World, LiesO W ao L → LiesOI W po (fl M) → LiesOI W qo (fl N) → Calls Try.prog 47 #[.agg #[.int .i64 a, .int .i64 b, .int .i64 c, .slice ao L.length cap], .int .i64 m, .slice po M.length pc, .slice qo N.length qc] W fun e w' => e = .returned (.int .i64 r) ∧ Below W.heap.size W w') :
    Calls Try.prog 13 #[.agg #[.int .i64 a, .int .i64 b, .int .i64 c, .slice ao L.length cap], .int .i64 m, .agg #[.slice po M.length pc, .slice qo N.length qc]] w fun e w' => e = .returned (.bool true) ∧ Below w.heap.size w w' := by
  have sn := sane7_any
  have lg := fun (W : World) (sb : Nat) (h1 : W.cell? ⟨sb, 0, none⟩ = some (.slice po M.length pc)) (h2 : W.cell? ⟨sb, 1, none⟩ = some (.slice qo N.length qc)) => long72_any a b c ao po qo cap pc qc L.length M.length N.length sb false W h1 h2 (.inl ⟨by omega, by omega, by omega, rfl⟩)
  have H := Lib.hid hm
  have HP := Lib.hid hp
  have HQ := Lib.hid hq
  clear hm hp hq hn
  have kc := @Tail.cell_re; have kc1 : ∀ (W : World) (o : Obj) (d : Nat) (os : Array Obj) (a : Addr), a.block ≤ W.heap.size → (Sort.grow (redrawn (W.alloc o) d) os).cell? a = (W.alloc o).cell? a := fun W o d os a h => Tail.cell_re (W.alloc o) d os a (Nat.lt_of_le_of_lt h (by simp))
  go_enter Try.func13, Try.ntmps13
  go_wp2_with (first | ((with_reducible refine (lg _ _ (by simp [go_sem]) (by simp [go_sem])).mono ?_); clear lg; rintro e w1 ⟨rfl, hw1⟩; have hc1 := Tail.cells hw1; have zw10 := Nat.lt_of_lt_of_le (n := w.heap.size) (by simp <;> omega) hw1.size; have zw11 := Nat.lt_of_lt_of_le (n := w.heap.size + 1) (by simp <;> omega) hw1.size))
  have HO3 := H.out.later (show Below w.heap.size w w1 by repeat (first | (with_reducible exact Below.refl _ _) | (with_reducible refine Below.setCell ?_ ?_ _) | (with_reducible refine Below.drew ?_) | (with_reducible refine Below.alloc ?_ ?_ _) | (with_reducible refine Below.trans ?_ (Below.mono hw1 ?_)) | (with_reducible exact hw1.size) | omega | (simp <;> omega) | (simp <;> (have s := hw1.size; omega)) | (have s0 := hw1.size; (try simp at s0); (try simp); omega)))
  have HP3 := HP.out.later (show Below w.heap.size w w1 by repeat (first | (with_reducible exact Below.refl _ _) | (with_reducible refine Below.setCell ?_ ?_ _) | (with_reducible refine Below.drew ?_) | (with_reducible refine Below.alloc ?_ ?_ _) | (with_reducible refine Below.trans ?_ (Below.mono hw1 ?_)) | (with_reducible exact hw1.size) | omega | (simp <;> omega) | (simp <;> (have s := hw1.size; omega)) | (have s0 := hw1.size; (try simp at s0); (try simp); omega)))
  have HQ3 := HQ.out.later (show Below w.heap.size w w1 by repeat (first | (with_reducible exact Below.refl _ _) | (with_reducible refine Below.setCell ?_ ?_ _) | (with_reducible refine Below.drew ?_) | (with_reducible refine Below.alloc ?_ ?_ _) | (with_reducible refine Below.trans ?_ (Below.mono hw1 ?_)) | (with_reducible exact hw1.size) | omega | (simp <;> omega) | (simp <;> (have s := hw1.size; omega)) | (have s0 := hw1.size; (try simp at s0); (try simp); omega)))
  refine Tail.region_below (by kernel_rfl) (by kernel_rfl) ?_
  repeat (go_big_quiet_step (first | (with_reducible exact Calls.regrown_of (c1 _ (liesO_re HO3 _ _) (liesOI_re HP3 _ _) (liesOI_re HQ3 _ _))) | (with_reducible exact Calls.regrown_of (c2 _ (liesO_re HO3 _ _) (liesOI_re HP3 _ _) (liesOI_re HQ3 _ _))) | (with_reducible exact Calls.regrown_of (sn _))))
  refine wpQuiet_nil ?_
  intro w9 hw9
  go_wp2
  go_ret
  exact ⟨rfl, by repeat (first | (with_reducible exact Below.refl _ _) | (with_reducible refine Below.setCell ?_ ?_ _) | (with_reducible refine Below.drew ?_) | (with_reducible refine Below.alloc ?_ ?_ _) | (with_reducible refine Below.trans ?_ (Below.mono hw9 ?_)) | (with_reducible refine Below.trans ?_ (Below.mono hw1 ?_)) | (with_reducible exact hw9.size) | (with_reducible exact hw1.size) | omega | (simp <;> omega) | (simp <;> (have s := hw9.size; omega)) | (simp <;> (have s := hw1.size; omega)) | (have s0 := hw9.size; (try simp at s0); have s1 := hw1.size; (try simp at s1); (try simp); omega))⟩
theorem fermiChecks_walk (a b c : Int) (ao : Option Addr) (L : List Q) (cap : Nat) (m : Int) (po : Option Addr) (M : List Sp) (pc : Nat) (qo : Option Addr) (N : List Sp) (qc : Nat) (w : World) (_ : L.length ≤ maxLen) (hm : LiesO w ao L) (_ : M.length ≤ pc) (_ : pc ≤ maxLen) (hp : LiesOI w po (fl M)) (_ : po = none → pc = 0) (_ : N.length ≤ qc) (_ : qc ≤ maxLen) (hq : LiesOI w qo (fl N)) (_ : qo = none → qc = 0) : Calls Try.prog 13 #[.agg #[.int .i64 a, .int .i64 b, .int .i64 c, .slice ao L.length cap], .int .i64 m, .agg #[.slice po M.length pc, .slice qo N.length qc]] w fun e w' => e = .returned (.bool true) ∧ Below w.heap.size w w' := by
  by_cases hn : 100 < M.length ∨ 100 < N.length ∨ 200 < L.length
  · exact fermiChecks_long a b c m ao po qo L M N cap pc qc w hn
  · obtain ⟨ns, r0, hr⟩ := nums7_ex a b c L
    obtain ⟨r1, hv⟩ := rmR_ex L.length M N r0 m
    by_cases h0 : r1 = 0
    · subst h0
      obtain rfl := (ms2_ok (rmR_ok hv).1).1
      obtain ⟨n, hF⟩ := fld7 hr
      obtain ⟨r, hx⟩ := chR_ex (remL m n (arms a b c L L.length) M N) ((4 * m + 16) * (4 * m + 16) * 4 * (a * b * c))
      exact fermiChecks_short a b c m r ao po qo L M N cap pc qc w hn hm hp hq
        (fun W h1 h2 h3 => check_ok a b c m r ao po qo cap pc qc n L ns M N W h1 h2 h3 hr hv hF (by omega) (by omega) hx)
        (fun W h1 h2 h3 => refCheck_ok a b c m r ao po qo cap pc qc n L ns M N W h1 h2 h3 hr hv hF (by omega) (by omega) hx)
    · exact fermiChecks_short a b c m r1 ao po qo L M N cap pc qc w hn hm hp hq
        (fun W h1 h2 h3 => check_bad a b c r0 m r1 ao po qo cap pc qc L ns M N W h1 h2 h3 hr hv h0 (by omega) (by omega) (by omega))
        (fun W h1 h2 h3 => refCheck_bad a b c r0 m r1 ao po qo cap pc qc L ns M N W h1 h2 h3 hr hv h0 (by omega) (by omega) (by omega))

/-! ### The statement of the law FermiChecks, out of its walk -/
set_option maxRecDepth 100000 in
theorem fermiChecks_lifted (os : Os) (started : os.Started) (H : Type) (enc : TypeId × Value → H) :
    ReturnsInHanded {} Try.checked os 13 .any (Rows.fermiChecksSpec.pre6 enc Try.prog Try.f13 Rows.fermiChecksRow.domain false) (Rows.fermiChecksSpec.post enc Try.prog Try.f13 false true false false) := by
  refine returnsInHanded_of_change (C := Try.checked) own started (by kernel_rfl) Try.func13
    (ChangeSpec.witness6 (enc := enc) (C := Try.checked) false ⟨#[], #[.agg #[.int .i64 0, .int .i64 0, .int .i64 0, .slice none 0 0], .int .i64 0, .agg #[.slice none 0 0, .slice none 0 0]], []⟩ 8 (by kernel_rfl) (by kernel_rfl) (by kernel_rfl) (by kernel_rfl)) ?_
  intro W base args ds gs before hval0 hW hcnd _
  have hval : ∀ (j : Nat) t v, Try.f13.params[j]? = some t → args[j]? = some v → Value.okWide Try.prog W .any base t v := hval0
  have hW' := hW
  obtain ⟨p, q, hA0, hV, rfl, hfz, hnd⟩ := hW
  have hA : DataW.TrodAll enc Try.prog W 0 (fun _ => true) true Try.f13.params.toList args.toList ds p := hA0
  rw [Try.params13] at hA hval
  obtain ⟨v0, vs0, d0, ds0, p0, q0, hargs, rfl, rfl, h0, r0⟩ := trodAll_cons hA
  obtain ⟨v1, vs1, d1, ds1, p1, q1, rfl, rfl, rfl, h1, r1⟩ := trodAll_cons r0
  obtain ⟨v2, vs2, d2, ds2, p2, q2, rfl, rfl, rfl, h2, r2⟩ := trodAll_cons r1
  obtain ⟨rfl, rfl, rfl⟩ := trodAll_nil r2
  obtain rfl : args = #[v0, v1, v2] := by cases args; simp_all
  obtain ⟨rfl, rfl⟩ := trodVars_none hV
  have k0 := h0
  have lt0 : ∀ x ∈ p0, x.block < W.heap.size := by obtain ⟨m, hm⟩ := k0; exact DataW.trod_lt m _ _ _ hm
  obtain ⟨x0, y0, z0, ao0, L0, cap0, rfl, hl0, hm0⟩ := open_field (hval 0 25 v0 rfl rfl) h0
  have k1 := h1
  have lt1 : ∀ x ∈ p1, x.block < W.heap.size := by obtain ⟨m, hm⟩ := k1; exact DataW.trod_lt m _ _ _ hm
  obtain ⟨x1, e1, -, -, -⟩ := open_int Try.underlying3 (hval 1 3 v1 rfl rfl) h1
  subst e1
  have k2 := h2
  have lt2 : ∀ x ∈ p2, x.block < W.heap.size := by obtain ⟨m, hm⟩ := k2; exact DataW.trod_lt m _ _ _ hm
  obtain ⟨po2, M2, pc2, qo2, N2, qc2, rfl, hkc2, hkl2, hkm2, hkz2, hqc2, hql2, hqm2, hqz2⟩ := open_try (hval 2 51 v2 rfl rfl) h2
  clear hA0 hval0
  refine (fermiChecks_walk x0 y0 z0 ao0 L0 cap0 x1 po2 M2 pc2 qo2 N2 qc2 W hl0 hm0 hkc2 hkl2 hkm2 hkz2 hqc2 hql2 hqm2 hqz2).mono fun e W' ⟨he, bel⟩ => ?_
  subst he
  exact ⟨_, rfl, _, _, _, [], _, [], hW', trodAll_mk1 (shut_bool Try.underlying4 _), (trodAll_cons_mk (Below.trod laidOut (by kernel_rfl) (of_decide_eq_true (by kernel_rfl)) k0 bel lt0) (trodAll_cons_mk (Below.trod laidOut (by kernel_rfl) (of_decide_eq_true (by kernel_rfl)) k1 bel lt1) (trodAll_cons_mk (Below.trod laidOut (by kernel_rfl) (of_decide_eq_true (by kernel_rfl)) k2 bel lt2) trodAll_mk0))), rfl, bel.frame _, fun h => by cases h⟩

theorem fermiChecks_jf9 : (Rows.fermiChecksRow.inPlace == Try.prog.inPlace 13) = true := by kernel_rfl
theorem fermiChecks_jf10 : (Rows.fermiChecksRow.unfollowed == Try.prog.unfollowed 13) = true := by kernel_rfl
theorem fermiChecks_jf11 : (Rows.fermiChecksRow.recurses == Try.prog.recurses 13) = true := by kernel_rfl
theorem fermiChecks_jf12 : (Rows.fermiChecksRow.named == Try.prog.varsNamed 13) = true := by kernel_rfl
theorem fermiChecks_facts : joinedFacts Try.prog 13 Try.f13 Rows.fermiChecksSpec Rows.fermiChecksRow = true := by
  unfold joinedFacts
  exact (band (band (band (band (band (band (band (band (band (band (band (band (band (band (band (band (band (band (band (band (band (band (band (band (band (band (band (band (band (band (band (by kernel_rfl) jf1) jf2) (by kernel_rfl)) (by kernel_rfl)) (by kernel_rfl)) jf6) (by kernel_rfl)) jf8) fermiChecks_jf9) fermiChecks_jf10) fermiChecks_jf11) fermiChecks_jf12) (by kernel_rfl)) (by kernel_rfl)) (by kernel_rfl)) (by kernel_rfl)) (by kernel_rfl)) (by kernel_rfl)) (by kernel_rfl)) (by kernel_rfl)) (by kernel_rfl)) (by kernel_rfl)) (by kernel_rfl)) jf24) jf25) jf26) jf27) (by kernel_rfl)) (by kernel_rfl)) (by kernel_rfl)) (by kernel_rfl))

theorem fermiChecks_over : Rows.fermiChecksRow.holds Try.pinned (OpenSpec.ofChange Rows.fermiChecksSpec) :=
  OpenClaim.holds_of_wide 13 Try.f13 rfl rfl rfl rfl rfl rfl rfl ⟨rfl, rfl, rfl, rfl, rfl⟩ rfl rfl rfl rfl rfl (by kernel_rfl) Try.func13 fermiChecks_facts
    (of_decide_eq_true (by kernel_rfl)) (by unfold Func.isWrapper; first | (rw [if_pos (by decide +kernel)]; kernel_rfl) | (rw [if_neg (by decide +kernel)]; exact ⟨rfl, rfl⟩))
    (fun os started H enc _ => fermiChecks_lifted os started H enc)

theorem fermiChecks_holds : Rows.FermiChecksSaid := fermiChecks_over
#print axioms fermiChecks_holds

end Go.Proofs.Ytmnlfojcofdaeaa
