/- FermiDots: the product of two vectors is what the document says, in either order, for all fields and vectors.
Conditions: none. -/
import Derived.Test.YtmnlfojcofdaeaaSane7
import Derived.Test.YtmnlfojcofdaeaaFermB
import Derived.Test.YtmnlfojcofdaeaaLngC
import Derived.Test.YtmnlfojcofdaeaaOpenS
import Derived.Test.YtmnlfojcofdaeaaJFacts
namespace Go.Proofs.Ytmnlfojcofdaeaa
set_option linter.unusedVariables false
set_option linter.unusedSimpArgs false
set_option maxRecDepth 1000000
open Go.ChangeShapes Go.WideShapes Go.ChangeAt Go.RowKit
open Um Tm Fm

theorem vS_vals {m : Nat} {M : List Sp} {r0 r : Int} (h : vS m M r0 r) (h0 : r0 = 0) : r = 0 ∨ r = 1 := by
  rcases h with ⟨h1, _⟩ | ⟨_, h2⟩
  · exact absurd h0 h1
  · rcases h2 with ⟨_, h⟩ | ⟨_, _, h⟩ | ⟨_, _, h⟩
    · exact .inr h
    · exact .inl h
    · exact .inr h
theorem d2R_swap {m : Nat} {M N : List Sp} {r0 r : Int} (h : d2R m M N r0 r) : d2R m N M r0 r := by
  obtain ⟨r1, h1, h2⟩ := h
  by_cases h0 : r0 = 0
  · subst h0
    have k1 := vS_vals h1 rfl
    rcases h2 with ⟨h2, rfl⟩ | ⟨rfl, h2⟩
    · obtain ⟨r2, h3⟩ := vS_ex m N 0
      have k2 := vS_vals h3 rfl
      by_cases h4 : r2 = 0
      · exact ⟨r2, h3, .inr ⟨h4, h1⟩⟩
      · exact ⟨r2, h3, .inl ⟨h4, by omega⟩⟩
    · have k2 := vS_vals h2 rfl
      by_cases h4 : r = 0
      · exact ⟨r, h2, .inr ⟨h4, by rw [h4]; exact h1⟩⟩
      · exact ⟨r, h2, .inl ⟨h4, rfl⟩⟩
  · have k1 : r1 = r0 := by rcases h1 with ⟨_, h⟩ | ⟨h, _⟩; exact h; exact absurd h h0
    subst k1
    rcases h2 with ⟨h2, rfl⟩ | ⟨h, _⟩
    · exact ⟨r, .inl ⟨h0, rfl⟩, .inl ⟨h0, rfl⟩⟩
    · exact absurd h h0
theorem dotR_swap {M N : List Sp} {r v : Int} (h : dotR M N r v) (hl : r = 0 → M.length = N.length) : dotR N M r v := by
  rcases h with h | ⟨h, hv⟩
  · exact .inl h
  · exact .inr ⟨h, by rw [hv, dotL_comm (hl h)]⟩
set_option maxHeartbeats 3200000 in
theorem fermiDots_walk (a b c : Int) (ao : Option Addr) (L : List Q) (cap : Nat) (po : Option Addr) (M : List Sp) (pc : Nat) (qo : Option Addr) (N : List Sp) (qc : Nat) (w : World) (_ : L.length ≤ maxLen) (hm : LiesO w ao L) (_ : M.length ≤ pc) (_ : pc ≤ maxLen) (hp : LiesOI w po (fl M)) (_ : po = none → pc = 0) (_ : N.length ≤ qc) (_ : qc ≤ maxLen) (hq : LiesOI w qo (fl N)) (_ : qo = none → qc = 0) : Calls Try.prog 6 #[.agg #[.int .i64 a, .int .i64 b, .int .i64 c, .slice ao L.length cap], .slice po M.length pc, .slice qo N.length qc] w fun e w' => e = .returned (.bool true) ∧ Below w.heap.size w w' := by
  have sn := sane7_any
  by_cases hn : 100 < M.length ∨ 100 < N.length ∨ 200 < L.length
  · have lg := fun (W : World) (sb : Nat) (h1 : W.cell? ⟨sb, 0, none⟩ = some (.slice po M.length pc)) (h2 : W.cell? ⟨sb, 1, none⟩ = some (.slice qo N.length qc)) => long72_any a b c ao po qo cap pc qc L.length M.length N.length sb true W h1 h2 (.inr ⟨hn, rfl⟩)
    clear hm hp hq
    go_enter Try.func6, Try.ntmps6
    go_wp2_with (first | ((with_reducible refine (lg _ _ (by simp [go_sem]) (by simp [go_sem])).mono ?_); clear lg; rintro e w1 ⟨rfl, hw1⟩) | ((with_reducible refine (sn _).mono ?_); rintro e w2 ⟨rfl, hw2⟩))
    go_ret
    exact ⟨rfl, by repeat (first | (with_reducible exact Below.refl _ _) | (with_reducible refine Below.setCell ?_ ?_ _) | (with_reducible refine Below.drew ?_) | (with_reducible refine Below.alloc ?_ ?_ _) | (with_reducible refine Below.trans ?_ (Below.mono hw2 ?_)) | (with_reducible refine Below.trans ?_ (Below.mono hw1 ?_)) | (with_reducible exact hw2.size) | (with_reducible exact hw1.size) | omega | (simp <;> omega) | (simp <;> (have s := hw2.size; omega)) | (simp <;> (have s := hw1.size; omega)) | (have s0 := hw2.size; (try simp at s0); have s1 := hw1.size; (try simp at s1); (try simp); omega))⟩
  · have lg := fun (W : World) (sb : Nat) (h1 : W.cell? ⟨sb, 0, none⟩ = some (.slice po M.length pc)) (h2 : W.cell? ⟨sb, 1, none⟩ = some (.slice qo N.length qc)) => long72_any a b c ao po qo cap pc qc L.length M.length N.length sb false W h1 h2 (.inl ⟨by omega, by omega, by omega, rfl⟩)
    obtain ⟨ns, r0, hr⟩ := nums7_ex a b c L
    obtain ⟨r, hv⟩ := d2R_ex L.length M N r0
    obtain ⟨v, hd⟩ := dotR_ex M N r
    have hv2 := d2R_swap hv
    have hd2 := dotR_swap hd (fun h => by subst h; exact d2R_ok hv)
    have c1 := fun (W : World) (h1 : LiesO W ao L) (h2 : LiesOI W po (fl M)) (h3 : LiesOI W qo (fl N)) => dotO_any a b c r0 r v ao po qo cap pc qc L ns M N W h1 h2 h3 hr hv hd (by omega) (by omega) (by omega)
    have c2 := fun (W : World) (h1 : LiesO W ao L) (h2 : LiesOI W po (fl M)) (h3 : LiesOI W qo (fl N)) => refDotO_any a b c r0 r v ao po qo cap pc qc L ns M N W h1 h2 h3 hr hv hd (by omega) (by omega) (by omega)
    have c3 := fun (W : World) (h1 : LiesO W ao L) (h2 : LiesOI W qo (fl N)) (h3 : LiesOI W po (fl M)) => dotO_any a b c r0 r v ao qo po cap qc pc L ns N M W h1 h2 h3 hr hv2 hd2 (by omega) (by omega) (by omega)
    have H := Lib.hid hm
    have HP := Lib.hid hp
    have HQ := Lib.hid hq
    clear hm hp hq hr hv hd hv2 hd2
    go_enter Try.func6, Try.ntmps6
    go_wp2_with (first | ((with_reducible refine (lg _ _ (by simp [go_sem]) (by simp [go_sem])).mono ?_); clear lg; rintro e w1 ⟨rfl, hw1⟩; have hc1 := Tail.cells hw1; have z1 := Nat.lt_of_lt_of_le (n := w.heap.size) (by simp <;> omega) hw1.size) | ((with_reducible refine (c1 _ (H.out.later (by repeat (first | (with_reducible exact Below.refl _ _) | (with_reducible refine Below.setCell ?_ ?_ _) | (with_reducible refine Below.drew ?_) | (with_reducible refine Below.alloc ?_ ?_ _) | (with_reducible refine Below.trans ?_ (Below.mono hw1 ?_)) | (with_reducible exact hw1.size) | omega | (simp <;> omega) | (simp <;> (have s := hw1.size; omega)) | (have s0 := hw1.size; (try simp at s0); (try simp); omega)))) (HP.out.later (by repeat (first | (with_reducible exact Below.refl _ _) | (with_reducible refine Below.setCell ?_ ?_ _) | (with_reducible refine Below.drew ?_) | (with_reducible refine Below.alloc ?_ ?_ _) | (with_reducible refine Below.trans ?_ (Below.mono hw1 ?_)) | (with_reducible exact hw1.size) | omega | (simp <;> omega) | (simp <;> (have s := hw1.size; omega)) | (have s0 := hw1.size; (try simp at s0); (try simp); omega)))) (HQ.out.later (by repeat (first | (with_reducible exact Below.refl _ _) | (with_reducible refine Below.setCell ?_ ?_ _) | (with_reducible refine Below.drew ?_) | (with_reducible refine Below.alloc ?_ ?_ _) | (with_reducible refine Below.trans ?_ (Below.mono hw1 ?_)) | (with_reducible exact hw1.size) | omega | (simp <;> omega) | (simp <;> (have s := hw1.size; omega)) | (have s0 := hw1.size; (try simp at s0); (try simp); omega))))).mono ?_); clear c1; rintro e w2 ⟨rfl, hw2⟩; have hc2 := Tail.cells hw2; have z2 := Nat.lt_of_lt_of_le z1 hw2.size) | ((with_reducible refine (c2 _ (H.out.later (by repeat (first | (with_reducible exact Below.refl _ _) | (with_reducible refine Below.setCell ?_ ?_ _) | (with_reducible refine Below.drew ?_) | (with_reducible refine Below.alloc ?_ ?_ _) | (with_reducible refine Below.trans ?_ (Below.mono hw2 ?_)) | (with_reducible refine Below.trans ?_ (Below.mono hw1 ?_)) | (with_reducible exact hw2.size) | (with_reducible exact hw1.size) | omega | (simp <;> omega) | (simp <;> (have s := hw2.size; omega)) | (simp <;> (have s := hw1.size; omega)) | (have s0 := hw2.size; (try simp at s0); have s1 := hw1.size; (try simp at s1); (try simp); omega)))) (HP.out.later (by repeat (first | (with_reducible exact Below.refl _ _) | (with_reducible refine Below.setCell ?_ ?_ _) | (with_reducible refine Below.drew ?_) | (with_reducible refine Below.alloc ?_ ?_ _) | (with_reducible refine Below.trans ?_ (Below.mono hw2 ?_)) | (with_reducible refine Below.trans ?_ (Below.mono hw1 ?_)) | (with_reducible exact hw2.size) | (with_reducible exact hw1.size) | omega | (simp <;> omega) | (simp <;> (have s := hw2.size; omega)) | (simp <;> (have s := hw1.size; omega)) | (have s0 := hw2.size; (try simp at s0); have s1 := hw1.size; (try simp at s1); (try simp); omega)))) (HQ.out.later (by repeat (first | (with_reducible exact Below.refl _ _) | (with_reducible refine Below.setCell ?_ ?_ _) | (with_reducible refine Below.drew ?_) | (with_reducible refine Below.alloc ?_ ?_ _) | (with_reducible refine Below.trans ?_ (Below.mono hw2 ?_)) | (with_reducible refine Below.trans ?_ (Below.mono hw1 ?_)) | (with_reducible exact hw2.size) | (with_reducible exact hw1.size) | omega | (simp <;> omega) | (simp <;> (have s := hw2.size; omega)) | (simp <;> (have s := hw1.size; omega)) | (have s0 := hw2.size; (try simp at s0); have s1 := hw1.size; (try simp at s1); (try simp); omega))))).mono ?_); clear c2; rintro e w3 ⟨rfl, hw3⟩; have hc3 := Tail.cells hw3; have z3 := Nat.lt_of_lt_of_le z2 hw3.size) | ((with_reducible refine (c3 _ (H.out.later (by repeat (first | (with_reducible exact Below.refl _ _) | (with_reducible refine Below.setCell ?_ ?_ _) | (with_reducible refine Below.drew ?_) | (with_reducible refine Below.alloc ?_ ?_ _) | (with_reducible refine Below.trans ?_ (Below.mono hw3 ?_)) | (with_reducible refine Below.trans ?_ (Below.mono hw2 ?_)) | (with_reducible refine Below.trans ?_ (Below.mono hw1 ?_)) | (with_reducible exact hw3.size) | (with_reducible exact hw2.size) | (with_reducible exact hw1.size) | omega | (simp <;> omega) | (simp <;> (have s := hw3.size; omega)) | (simp <;> (have s := hw2.size; omega)) | (simp <;> (have s := hw1.size; omega)) | (have s0 := hw3.size; (try simp at s0); have s1 := hw2.size; (try simp at s1); have s2 := hw1.size; (try simp at s2); (try simp); omega)))) (HQ.out.later (by repeat (first | (with_reducible exact Below.refl _ _) | (with_reducible refine Below.setCell ?_ ?_ _) | (with_reducible refine Below.drew ?_) | (with_reducible refine Below.alloc ?_ ?_ _) | (with_reducible refine Below.trans ?_ (Below.mono hw3 ?_)) | (with_reducible refine Below.trans ?_ (Below.mono hw2 ?_)) | (with_reducible refine Below.trans ?_ (Below.mono hw1 ?_)) | (with_reducible exact hw3.size) | (with_reducible exact hw2.size) | (with_reducible exact hw1.size) | omega | (simp <;> omega) | (simp <;> (have s := hw3.size; omega)) | (simp <;> (have s := hw2.size; omega)) | (simp <;> (have s := hw1.size; omega)) | (have s0 := hw3.size; (try simp at s0); have s1 := hw2.size; (try simp at s1); have s2 := hw1.size; (try simp at s2); (try simp); omega)))) (HP.out.later (by repeat (first | (with_reducible exact Below.refl _ _) | (with_reducible refine Below.setCell ?_ ?_ _) | (with_reducible refine Below.drew ?_) | (with_reducible refine Below.alloc ?_ ?_ _) | (with_reducible refine Below.trans ?_ (Below.mono hw3 ?_)) | (with_reducible refine Below.trans ?_ (Below.mono hw2 ?_)) | (with_reducible refine Below.trans ?_ (Below.mono hw1 ?_)) | (with_reducible exact hw3.size) | (with_reducible exact hw2.size) | (with_reducible exact hw1.size) | omega | (simp <;> omega) | (simp <;> (have s := hw3.size; omega)) | (simp <;> (have s := hw2.size; omega)) | (simp <;> (have s := hw1.size; omega)) | (have s0 := hw3.size; (try simp at s0); have s1 := hw2.size; (try simp at s1); have s2 := hw1.size; (try simp at s2); (try simp); omega))))).mono ?_); clear c3; rintro e w4 ⟨rfl, hw4⟩) | ((with_reducible refine (sn _).mono ?_); rintro e w5 ⟨rfl, hw5⟩))
    go_ret
    exact ⟨rfl, by repeat (first | (with_reducible exact Below.refl _ _) | (with_reducible refine Below.setCell ?_ ?_ _) | (with_reducible refine Below.drew ?_) | (with_reducible refine Below.alloc ?_ ?_ _) | (with_reducible refine Below.trans ?_ (Below.mono hw5 ?_)) | (with_reducible refine Below.trans ?_ (Below.mono hw4 ?_)) | (with_reducible refine Below.trans ?_ (Below.mono hw3 ?_)) | (with_reducible refine Below.trans ?_ (Below.mono hw2 ?_)) | (with_reducible refine Below.trans ?_ (Below.mono hw1 ?_)) | (with_reducible exact hw5.size) | (with_reducible exact hw4.size) | (with_reducible exact hw3.size) | (with_reducible exact hw2.size) | (with_reducible exact hw1.size) | omega | (simp <;> omega) | (simp <;> (have s := hw5.size; omega)) | (simp <;> (have s := hw4.size; omega)) | (simp <;> (have s := hw3.size; omega)) | (simp <;> (have s := hw2.size; omega)) | (simp <;> (have s := hw1.size; omega)) | (have s0 := hw5.size; (try simp at s0); have s1 := hw4.size; (try simp at s1); have s2 := hw3.size; (try simp at s2); have s3 := hw2.size; (try simp at s3); have s4 := hw1.size; (try simp at s4); (try simp); omega))⟩

/-! ### The statement of the law FermiDots, out of its walk -/
set_option maxRecDepth 100000 in
theorem fermiDots_lifted (os : Os) (started : os.Started) (H : Type) (enc : TypeId × Value → H) :
    ReturnsInHanded {} Try.checked os 6 .any (Rows.fermiDotsSpec.pre6 enc Try.prog Try.f6 Rows.fermiDotsRow.domain false) (Rows.fermiDotsSpec.post enc Try.prog Try.f6 false true false false) := by
  refine returnsInHanded_of_change (C := Try.checked) own started (by kernel_rfl) Try.func6
    (ChangeSpec.witness6 (enc := enc) (C := Try.checked) false ⟨#[], #[.agg #[.int .i64 0, .int .i64 0, .int .i64 0, .slice none 0 0], .slice none 0 0, .slice none 0 0], []⟩ 8 (by kernel_rfl) (by kernel_rfl) (by kernel_rfl) (by kernel_rfl)) ?_
  intro W base args ds gs before hval0 hW hcnd _
  have hval : ∀ (j : Nat) t v, Try.f6.params[j]? = some t → args[j]? = some v → Value.okWide Try.prog W .any base t v := hval0
  have hW' := hW
  obtain ⟨p, q, hA0, hV, rfl, hfz, hnd⟩ := hW
  have hA : DataW.TrodAll enc Try.prog W 0 (fun _ => true) true Try.f6.params.toList args.toList ds p := hA0
  rw [Try.params6] at hA hval
  obtain ⟨v0, vs0, d0, ds0, p0, q0, hargs, rfl, rfl, h0, r0⟩ := trodAll_cons hA
  obtain ⟨v1, vs1, d1, ds1, p1, q1, rfl, rfl, rfl, h1, r1⟩ := trodAll_cons r0
  obtain ⟨v2, vs2, d2, ds2, p2, q2, rfl, rfl, rfl, h2, r2⟩ := trodAll_cons r1
  obtain ⟨rfl, rfl, rfl⟩ := trodAll_nil r2
  obtain rfl : args = #[v0, v1, v2] := by cases args; simp_all
  obtain ⟨rfl, rfl⟩ := trodVars_none hV
  have k0 := h0
  have lt0 : ∀ x ∈ p0, x.block < W.heap.size := by obtain ⟨m, hm⟩ := k0; exact DataW.trod_lt m _ _ _ hm
  obtain ⟨x0, y0, z0, ao0, L0, cap0, rfl, hl0, hm0⟩ := open_field (hval 0 25 v0 rfl rfl) h0
  have k1 := h1
  have lt1 : ∀ x ∈ p1, x.block < W.heap.size := by obtain ⟨m, hm⟩ := k1; exact DataW.trod_lt m _ _ _ hm
  obtain ⟨po1, M1, pc1, rfl, hkc1, hkl1, hkm1, hkz1⟩ := open_spins (hval 1 26 v1 rfl rfl) h1
  have k2 := h2
  have lt2 : ∀ x ∈ p2, x.block < W.heap.size := by obtain ⟨m, hm⟩ := k2; exact DataW.trod_lt m _ _ _ hm
  obtain ⟨po2, M2, pc2, rfl, hkc2, hkl2, hkm2, hkz2⟩ := open_spins (hval 2 26 v2 rfl rfl) h2
  clear hA0 hval0
  refine (fermiDots_walk x0 y0 z0 ao0 L0 cap0 po1 M1 pc1 po2 M2 pc2 W hl0 hm0 hkc1 hkl1 hkm1 hkz1 hkc2 hkl2 hkm2 hkz2).mono fun e W' ⟨he, bel⟩ => ?_
  subst he
  exact ⟨_, rfl, _, _, _, [], _, [], hW', trodAll_mk1 (shut_bool Try.underlying4 _), (trodAll_cons_mk (Below.trod laidOut (by kernel_rfl) (of_decide_eq_true (by kernel_rfl)) k0 bel lt0) (trodAll_cons_mk (Below.trod laidOut (by kernel_rfl) (of_decide_eq_true (by kernel_rfl)) k1 bel lt1) (trodAll_cons_mk (Below.trod laidOut (by kernel_rfl) (of_decide_eq_true (by kernel_rfl)) k2 bel lt2) trodAll_mk0))), rfl, bel.frame _, fun h => by cases h⟩

theorem fermiDots_jf9 : (Rows.fermiDotsRow.inPlace == Try.prog.inPlace 6) = true := by kernel_rfl
theorem fermiDots_jf10 : (Rows.fermiDotsRow.unfollowed == Try.prog.unfollowed 6) = true := by kernel_rfl
theorem fermiDots_jf11 : (Rows.fermiDotsRow.recurses == Try.prog.recurses 6) = true := by kernel_rfl
theorem fermiDots_jf12 : (Rows.fermiDotsRow.named == Try.prog.varsNamed 6) = true := by kernel_rfl
theorem fermiDots_facts : joinedFacts Try.prog 6 Try.f6 Rows.fermiDotsSpec Rows.fermiDotsRow = true := by
  unfold joinedFacts
  exact (band (band (band (band (band (band (band (band (band (band (band (band (band (band (band (band (band (band (band (band (band (band (band (band (band (band (band (band (band (band (band (by kernel_rfl) jf1) jf2) (by kernel_rfl)) (by kernel_rfl)) (by kernel_rfl)) jf6) (by kernel_rfl)) jf8) fermiDots_jf9) fermiDots_jf10) fermiDots_jf11) fermiDots_jf12) (by kernel_rfl)) (by kernel_rfl)) (by kernel_rfl)) (by kernel_rfl)) (by kernel_rfl)) (by kernel_rfl)) (by kernel_rfl)) (by kernel_rfl)) (by kernel_rfl)) (by kernel_rfl)) (by kernel_rfl)) jf24) jf25) jf26) jf27) (by kernel_rfl)) (by kernel_rfl)) (by kernel_rfl)) (by kernel_rfl))

theorem fermiDots_over : Rows.fermiDotsRow.holds Try.pinned (OpenSpec.ofChange Rows.fermiDotsSpec) :=
  OpenClaim.holds_of_wide 6 Try.f6 rfl rfl rfl rfl rfl rfl rfl ⟨rfl, rfl, rfl, rfl, rfl⟩ rfl rfl rfl rfl rfl (by kernel_rfl) Try.func6 fermiDots_facts
    (of_decide_eq_true (by kernel_rfl)) (by unfold Func.isWrapper; first | (rw [if_pos (by decide +kernel)]; kernel_rfl) | (rw [if_neg (by decide +kernel)]; exact ⟨rfl, rfl⟩))
    (fun os started H enc _ => fermiDots_lifted os started H enc)

theorem fermiDots_holds : Rows.FermiDotsSaid := fermiDots_over
#print axioms fermiDots_holds

end Go.Proofs.Ytmnlfojcofdaeaa
