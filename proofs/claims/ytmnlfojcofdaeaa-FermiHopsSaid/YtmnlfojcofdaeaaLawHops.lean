/- FermiHops: which vectors are right, and their hopping, is what the document says, for all fields and vectors.
Conditions: none. -/
import Derived.Test.YtmnlfojcofdaeaaSane7
import Derived.Test.YtmnlfojcofdaeaaRouC
import Derived.Test.YtmnlfojcofdaeaaLngC
import Derived.Test.YtmnlfojcofdaeaaOpenS
import Derived.Test.YtmnlfojcofdaeaaJFacts
namespace Go.Proofs.Ytmnlfojcofdaeaa
set_option linter.unusedVariables false
set_option linter.unusedSimpArgs false
set_option maxRecDepth 1000000
open Go.ChangeShapes Go.WideShapes Go.ChangeAt Go.RowKit
open Um Tm Fm

theorem liesI_re7 {W : World} {b off : Nat} {l : List Int} (h : LiesI W b off l) (d : Nat) (os : Array Obj) : LiesI (Sort.grow (redrawn W d) os) b off l := fun i x hx => by
  have f := h i x hx
  rw [Tail.cell_re W d os _ (World.block_lt_of_cell? W _ f)]
  exact f
set_option maxHeartbeats 3200000 in
theorem fermiHops_long (a b c : Int) (ao po : Option Addr) (L : List Q) (M : List Sp) (cap pc : Nat) (w : World) (hn : 100 < M.length ∨ 200 < L.length) : Calls Try.prog 3 #[.agg #[.int .i64 a, .int .i64 b, .int .i64 c, .slice ao L.length cap], .slice po M.length pc] w fun e w' => e = .returned (.bool true) ∧ Below w.heap.size w w' := by
  have sn := sane7_any
  have lg := fun (W : World) (sb : Nat) (h1 : W.cell? ⟨sb, 0, none⟩ = some (.slice po M.length pc)) => long71_any a b c ao po cap pc L.length M.length sb true W h1 (.inr ⟨hn, rfl⟩)
  go_enter Try.func3, Try.ntmps3
  go_wp2_with (first | ((with_reducible refine (lg _ _ (by simp [go_sem])).mono ?_); clear lg; rintro e w1 ⟨rfl, hw1⟩) | ((with_reducible refine (sn _).mono ?_); rintro e w2 ⟨rfl, hw2⟩))
  go_ret
  exact ⟨rfl, by repeat (first | (with_reducible exact Below.refl _ _) | (with_reducible refine Below.setCell ?_ ?_ _) | (with_reducible refine Below.drew ?_) | (with_reducible refine Below.alloc ?_ ?_ _) | (with_reducible refine Below.trans ?_ (Below.mono hw2 ?_)) | (with_reducible refine Below.trans ?_ (Below.mono hw1 ?_)) | (with_reducible exact hw2.size) | (with_reducible exact hw1.size) | omega | (simp <;> omega) | (simp <;> (have s := hw2.size; omega)) | (simp <;> (have s := hw1.size; omega)) | (have s0 := hw2.size; (try simp at s0); have s1 := hw1.size; (try simp at s1); (try simp); omega))⟩
set_option maxHeartbeats 3200000 in
theorem fermiHops_bad (a b c r0 r : Int) (ao po : Option Addr) (L : List Q) (ns : List Int) (M : List Sp) (cap pc : Nat) (w : World) (hl : L.length ≤ 200) (hl2 : M.length ≤ 100) (hm : LiesO w ao L) (hp : LiesOI w po (fl M)) (hr : numsR a b c L ns r0) (hv : vS L.length M r0 r) (h0 : r ≠ 0) : Calls Try.prog 3 #[.agg #[.int .i64 a, .int .i64 b, .int .i64 c, .slice ao L.length cap], .slice po M.length pc] w fun e w' => e = .returned (.bool true) ∧ Below w.heap.size w w' := by
  have sn := sane7_any
  have lg := fun (W : World) (sb : Nat) (h1 : W.cell? ⟨sb, 0, none⟩ = some (.slice po M.length pc)) => long71_any a b c ao po cap pc L.length M.length sb false W h1 (.inl ⟨hl2, hl, rfl⟩)
  have c1 := fun (W : World) (h : LiesO W ao L) (h2 : LiesOI W po (fl M)) => hop_bad a b c r0 r ao po cap pc L ns M W h h2 hr hv h0 (by omega) (by omega)
  have c2 := fun (W : World) (h : LiesO W ao L) (h2 : LiesOI W po (fl M)) => refHopO_bad a b c r0 r ao po cap pc L ns M W h h2 hr hv h0 (by omega) (by omega)
  have v1 := fun (W : World) (h : LiesO W ao L) (h2 : LiesOI W po (fl M)) => validate7_any a b c r0 r ao po cap pc L ns M W h h2 hr hv (by omega) (by omega)
  have v2 := fun (W : World) (h : LiesO W ao L) (h2 : LiesOI W po (fl M)) => refValidate7_any a b c r0 r ao po cap pc L ns M W h h2 hr hv (by omega) (by omega)
  have sk := fun W : World => sameS_nil none none 0 0 W
  have H := Lib.hid hm
  have HP := Lib.hid hp
  clear hr hv h0 hm hp
  have kc := @Tail.cell_re; have kc1 : ∀ (W : World) (o : Obj) (d : Nat) (os : Array Obj) (a : Addr), a.block ≤ W.heap.size → (Sort.grow (redrawn (W.alloc o) d) os).cell? a = (W.alloc o).cell? a := fun W o d os a h => Tail.cell_re (W.alloc o) d os a (Nat.lt_of_le_of_lt h (by simp))
  go_enter Try.func3, Try.ntmps3
  go_wp2_with (first | ((with_reducible refine (lg _ _ (by simp [go_sem])).mono ?_); clear lg; rintro e w1 ⟨rfl, hw1⟩; have hc1 := Tail.cells hw1; have z1 := Nat.lt_of_lt_of_le (n := w.heap.size) (by simp <;> omega) hw1.size) | ((with_reducible refine (c1 _ (H.out.later (by repeat (first | (with_reducible exact Below.refl _ _) | (with_reducible refine Below.setCell ?_ ?_ _) | (with_reducible refine Below.drew ?_) | (with_reducible refine Below.alloc ?_ ?_ _) | (with_reducible refine Below.trans ?_ (Below.mono hw1 ?_)) | (with_reducible exact hw1.size) | omega | (simp <;> omega) | (simp <;> (have s := hw1.size; omega)) | (have s0 := hw1.size; (try simp at s0); (try simp); omega)))) (HP.out.later (by repeat (first | (with_reducible exact Below.refl _ _) | (with_reducible refine Below.setCell ?_ ?_ _) | (with_reducible refine Below.drew ?_) | (with_reducible refine Below.alloc ?_ ?_ _) | (with_reducible refine Below.trans ?_ (Below.mono hw1 ?_)) | (with_reducible exact hw1.size) | omega | (simp <;> omega) | (simp <;> (have s := hw1.size; omega)) | (have s0 := hw1.size; (try simp at s0); (try simp); omega))))).mono ?_); clear c1; rintro e w2 ⟨rfl, hw2⟩; have hc2 := Tail.cells hw2; have z2 := Nat.lt_of_lt_of_le z1 hw2.size) | ((with_reducible refine (c2 _ (H.out.later (by repeat (first | (with_reducible exact Below.refl _ _) | (with_reducible refine Below.setCell ?_ ?_ _) | (with_reducible refine Below.drew ?_) | (with_reducible refine Below.alloc ?_ ?_ _) | (with_reducible refine Below.trans ?_ (Below.mono hw2 ?_)) | (with_reducible refine Below.trans ?_ (Below.mono hw1 ?_)) | (with_reducible exact hw2.size) | (with_reducible exact hw1.size) | omega | (simp <;> omega) | (simp <;> (have s := hw2.size; omega)) | (simp <;> (have s := hw1.size; omega)) | (have s0 := hw2.size; (try simp at s0); have s1 := hw1.size; (try simp at s1); (try simp); omega)))) (HP.out.later (by repeat (first | (with_reducible exact Below.refl _ _) | (with_reducible refine Below.setCell ?_ ?_ _) | (with_reducible refine Below.drew ?_) | (with_reducible refine Below.alloc ?_ ?_ _) | (with_reducible refine Below.trans ?_ (Below.mono hw2 ?_)) | (with_reducible refine Below.trans ?_ (Below.mono hw1 ?_)) | (with_reducible exact hw2.size) | (with_reducible exact hw1.size) | omega | (simp <;> omega) | (simp <;> (have s := hw2.size; omega)) | (simp <;> (have s := hw1.size; omega)) | (have s0 := hw2.size; (try simp at s0); have s1 := hw1.size; (try simp at s1); (try simp); omega))))).mono ?_); clear c2; rintro e w3 ⟨rfl, hw3⟩; have hc3 := Tail.cells hw3; have z3 := Nat.lt_of_lt_of_le z2 hw3.size))
  have HO3 := H.out.later (show Below w.heap.size w w3 by repeat (first | (with_reducible exact Below.refl _ _) | (with_reducible refine Below.setCell ?_ ?_ _) | (with_reducible refine Below.drew ?_) | (with_reducible refine Below.alloc ?_ ?_ _) | (with_reducible refine Below.trans ?_ (Below.mono hw3 ?_)) | (with_reducible refine Below.trans ?_ (Below.mono hw2 ?_)) | (with_reducible refine Below.trans ?_ (Below.mono hw1 ?_)) | (with_reducible exact hw3.size) | (with_reducible exact hw2.size) | (with_reducible exact hw1.size) | omega | (simp <;> omega) | (simp <;> (have s := hw3.size; omega)) | (simp <;> (have s := hw2.size; omega)) | (simp <;> (have s := hw1.size; omega)) | (have s0 := hw3.size; (try simp at s0); have s1 := hw2.size; (try simp at s1); have s2 := hw1.size; (try simp at s2); (try simp); omega)))
  have HP3 := HP.out.later (show Below w.heap.size w w3 by repeat (first | (with_reducible exact Below.refl _ _) | (with_reducible refine Below.setCell ?_ ?_ _) | (with_reducible refine Below.drew ?_) | (with_reducible refine Below.alloc ?_ ?_ _) | (with_reducible refine Below.trans ?_ (Below.mono hw3 ?_)) | (with_reducible refine Below.trans ?_ (Below.mono hw2 ?_)) | (with_reducible refine Below.trans ?_ (Below.mono hw1 ?_)) | (with_reducible exact hw3.size) | (with_reducible exact hw2.size) | (with_reducible exact hw1.size) | omega | (simp <;> omega) | (simp <;> (have s := hw3.size; omega)) | (simp <;> (have s := hw2.size; omega)) | (simp <;> (have s := hw1.size; omega)) | (have s0 := hw3.size; (try simp at s0); have s1 := hw2.size; (try simp at s1); have s2 := hw1.size; (try simp at s2); (try simp); omega)))
  refine Tail.region_below (by kernel_rfl) (by kernel_rfl) ?_
  repeat (go_big_quiet_step (first | (with_reducible exact Calls.regrown_of (v1 _ (liesO_re HO3 _ _) (liesOI_re HP3 _ _))) | (with_reducible exact Calls.regrown_of (v2 _ (liesO_re HO3 _ _) (liesOI_re HP3 _ _))) | (with_reducible exact Calls.regrown_of (sk _)) | (with_reducible exact Calls.regrown_of (sn _))))
  refine wpQuiet_nil ?_
  intro w9 hw9
  go_wp2
  go_ret
  exact ⟨rfl, by repeat (first | (with_reducible exact Below.refl _ _) | (with_reducible refine Below.setCell ?_ ?_ _) | (with_reducible refine Below.drew ?_) | (with_reducible refine Below.alloc ?_ ?_ _) | (with_reducible refine Below.trans ?_ (Below.mono hw9 ?_)) | (with_reducible refine Below.trans ?_ (Below.mono hw3 ?_)) | (with_reducible refine Below.trans ?_ (Below.mono hw2 ?_)) | (with_reducible refine Below.trans ?_ (Below.mono hw1 ?_)) | (with_reducible exact hw9.size) | (with_reducible exact hw3.size) | (with_reducible exact hw2.size) | (with_reducible exact hw1.size) | omega | (simp <;> omega) | (simp <;> (have s := hw9.size; omega)) | (simp <;> (have s := hw3.size; omega)) | (simp <;> (have s := hw2.size; omega)) | (simp <;> (have s := hw1.size; omega)) | (have s0 := hw9.size; (try simp at s0); have s1 := hw3.size; (try simp at s1); have s2 := hw2.size; (try simp at s2); have s3 := hw1.size; (try simp at s3); (try simp); omega))⟩
set_option maxHeartbeats 3200000 in
theorem fermiHops_ok (a b c : Int) (ao po : Option Addr) (L : List Q) (ns : List Int) (M : List Sp) (cap pc : Nat) (w : World) (hl : L.length ≤ 200) (hl2 : M.length ≤ 100) (hm : LiesO w ao L) (hp : LiesOI w po (fl M)) (hr : numsR a b c L ns 0) (hv : vS L.length M 0 0) : Calls Try.prog 3 #[.agg #[.int .i64 a, .int .i64 b, .int .i64 c, .slice ao L.length cap], .slice po M.length pc] w fun e w' => e = .returned (.bool true) ∧ Below w.heap.size w w' := by
  have sn := sane7_any
  obtain ⟨n, hF⟩ := fld7 hr
  have hps := hF.pos
  have lg := fun (W : World) (sb : Nat) (h1 : W.cell? ⟨sb, 0, none⟩ = some (.slice po M.length pc)) => long71_any a b c ao po cap pc L.length M.length sb false W h1 (.inl ⟨hl2, hl, rfl⟩)
  have c1 := fun (W : World) (h : LiesO W ao L) (h2 : LiesOI W po (fl M)) => hop_ok a b c ao po cap pc L ns M W h h2 hr hv n hF
  have c2 := fun (W : World) (h : LiesO W ao L) (h2 : LiesOI W po (fl M)) => refHopO_ok a b c ao po cap pc L ns M W h h2 hr hv n hF
  have v1 := fun (W : World) (h : LiesO W ao L) (h2 : LiesOI W po (fl M)) => validate7_any a b c 0 0 ao po cap pc L ns M W h h2 hr hv (by omega) (by omega)
  have v2 := fun (W : World) (h : LiesO W ao L) (h2 : LiesOI W po (fl M)) => refValidate7_any a b c 0 0 ao po cap pc L ns M W h h2 hr hv (by omega) (by omega)
  have hhl := hopL_len n (arms a b c L L.length) M
  generalize hopL n (arms a b c L L.length) M = X at *
  have sk := fun (W : World) (g k g' k' : Nat) (h1 : LiesI W g 0 (fl X)) (h2 : LiesI W g' 0 (fl X)) => sameS_some g 0 k g' 0 k' n X X W true h1 h2 hhl hhl (by omega) (decide_eq_true rfl).symm
  have H := Lib.hid hm
  have HP := Lib.hid hp
  clear hr hv hm hp hF hhl
  have kc := @Tail.cell_re; have kc1 : ∀ (W : World) (o : Obj) (d : Nat) (os : Array Obj) (a : Addr), a.block ≤ W.heap.size → (Sort.grow (redrawn (W.alloc o) d) os).cell? a = (W.alloc o).cell? a := fun W o d os a h => Tail.cell_re (W.alloc o) d os a (Nat.lt_of_le_of_lt h (by simp))
  go_enter Try.func3, Try.ntmps3
  go_wp2_with (first | ((with_reducible refine (lg _ _ (by simp [go_sem])).mono ?_); clear lg; rintro e w1 ⟨rfl, hw1⟩; have hc1 := Tail.cells hw1; have z1 := Nat.lt_of_lt_of_le (n := w.heap.size) (by simp <;> omega) hw1.size) | ((with_reducible refine (c1 _ (H.out.later (by repeat (first | (with_reducible exact Below.refl _ _) | (with_reducible refine Below.setCell ?_ ?_ _) | (with_reducible refine Below.drew ?_) | (with_reducible refine Below.alloc ?_ ?_ _) | (with_reducible refine Below.trans ?_ (Below.mono hw1 ?_)) | (with_reducible exact hw1.size) | omega | (simp <;> omega) | (simp <;> (have s := hw1.size; omega)) | (have s0 := hw1.size; (try simp at s0); (try simp); omega)))) (HP.out.later (by repeat (first | (with_reducible exact Below.refl _ _) | (with_reducible refine Below.setCell ?_ ?_ _) | (with_reducible refine Below.drew ?_) | (with_reducible refine Below.alloc ?_ ?_ _) | (with_reducible refine Below.trans ?_ (Below.mono hw1 ?_)) | (with_reducible exact hw1.size) | omega | (simp <;> omega) | (simp <;> (have s := hw1.size; omega)) | (have s0 := hw1.size; (try simp at s0); (try simp); omega))))).mono ?_); clear c1; rintro e w2 ⟨⟨g2, k2, rfl, hb2, hg2⟩, hw2⟩; have hc2 := Tail.cells hw2; have z2 := Nat.lt_of_lt_of_le z1 hw2.size; have HB2 := Lib.hid hb2.liesI; clear hb2) | ((with_reducible refine (c2 _ (H.out.later (by repeat (first | (with_reducible exact Below.refl _ _) | (with_reducible refine Below.setCell ?_ ?_ _) | (with_reducible refine Below.drew ?_) | (with_reducible refine Below.alloc ?_ ?_ _) | (with_reducible refine Below.trans ?_ (Below.mono hw2 ?_)) | (with_reducible refine Below.trans ?_ (Below.mono hw1 ?_)) | (with_reducible exact hw2.size) | (with_reducible exact hw1.size) | omega | (simp <;> omega) | (simp <;> (have s := hw2.size; omega)) | (simp <;> (have s := hw1.size; omega)) | (have s0 := hw2.size; (try simp at s0); have s1 := hw1.size; (try simp at s1); (try simp); omega)))) (HP.out.later (by repeat (first | (with_reducible exact Below.refl _ _) | (with_reducible refine Below.setCell ?_ ?_ _) | (with_reducible refine Below.drew ?_) | (with_reducible refine Below.alloc ?_ ?_ _) | (with_reducible refine Below.trans ?_ (Below.mono hw2 ?_)) | (with_reducible refine Below.trans ?_ (Below.mono hw1 ?_)) | (with_reducible exact hw2.size) | (with_reducible exact hw1.size) | omega | (simp <;> omega) | (simp <;> (have s := hw2.size; omega)) | (simp <;> (have s := hw1.size; omega)) | (have s0 := hw2.size; (try simp at s0); have s1 := hw1.size; (try simp at s1); (try simp); omega))))).mono ?_); clear c2; rintro e w3 ⟨⟨g3, k3, rfl, hb3, hg3⟩, hw3⟩; have hc3 := Tail.cells hw3; have z3 := Nat.lt_of_lt_of_le z2 hw3.size; have HB3 := Lib.hid hb3; clear hb3))
  have HO3 := H.out.later (show Below w.heap.size w w3 by repeat (first | (with_reducible exact Below.refl _ _) | (with_reducible refine Below.setCell ?_ ?_ _) | (with_reducible refine Below.drew ?_) | (with_reducible refine Below.alloc ?_ ?_ _) | (with_reducible refine Below.trans ?_ (Below.mono hw3 ?_)) | (with_reducible refine Below.trans ?_ (Below.mono hw2 ?_)) | (with_reducible refine Below.trans ?_ (Below.mono hw1 ?_)) | (with_reducible exact hw3.size) | (with_reducible exact hw2.size) | (with_reducible exact hw1.size) | omega | (simp <;> omega) | (simp <;> (have s := hw3.size; omega)) | (simp <;> (have s := hw2.size; omega)) | (simp <;> (have s := hw1.size; omega)) | (have s0 := hw3.size; (try simp at s0); have s1 := hw2.size; (try simp at s1); have s2 := hw1.size; (try simp at s2); (try simp); omega)))
  have HP3 := HP.out.later (show Below w.heap.size w w3 by repeat (first | (with_reducible exact Below.refl _ _) | (with_reducible refine Below.setCell ?_ ?_ _) | (with_reducible refine Below.drew ?_) | (with_reducible refine Below.alloc ?_ ?_ _) | (with_reducible refine Below.trans ?_ (Below.mono hw3 ?_)) | (with_reducible refine Below.trans ?_ (Below.mono hw2 ?_)) | (with_reducible refine Below.trans ?_ (Below.mono hw1 ?_)) | (with_reducible exact hw3.size) | (with_reducible exact hw2.size) | (with_reducible exact hw1.size) | omega | (simp <;> omega) | (simp <;> (have s := hw3.size; omega)) | (simp <;> (have s := hw2.size; omega)) | (simp <;> (have s := hw1.size; omega)) | (have s0 := hw3.size; (try simp at s0); have s1 := hw2.size; (try simp at s1); have s2 := hw1.size; (try simp at s2); (try simp); omega)))
  have A3 := HB2.out.later hw3
  have A4 := HB3.out
  refine Tail.region_below (by kernel_rfl) (by kernel_rfl) ?_
  repeat (go_big_quiet_step (first | (with_reducible exact Calls.regrown_of (v1 _ (liesO_re HO3 _ _) (liesOI_re HP3 _ _))) | (with_reducible exact Calls.regrown_of (v2 _ (liesO_re HO3 _ _) (liesOI_re HP3 _ _))) | (with_reducible exact Calls.regrown_of (sk _ _ _ _ _ (liesI_re7 A3 _ _) (liesI_re7 A4 _ _))) | (with_reducible exact Calls.regrown_of (sn _))))
  refine wpQuiet_nil ?_
  intro w9 hw9
  go_wp2
  go_ret
  exact ⟨rfl, by repeat (first | (with_reducible exact Below.refl _ _) | (with_reducible refine Below.setCell ?_ ?_ _) | (with_reducible refine Below.drew ?_) | (with_reducible refine Below.alloc ?_ ?_ _) | (with_reducible refine Below.trans ?_ (Below.mono hw9 ?_)) | (with_reducible refine Below.trans ?_ (Below.mono hw3 ?_)) | (with_reducible refine Below.trans ?_ (Below.mono hw2 ?_)) | (with_reducible refine Below.trans ?_ (Below.mono hw1 ?_)) | (with_reducible exact hw9.size) | (with_reducible exact hw3.size) | (with_reducible exact hw2.size) | (with_reducible exact hw1.size) | omega | (simp <;> omega) | (simp <;> (have s := hw9.size; omega)) | (simp <;> (have s := hw3.size; omega)) | (simp <;> (have s := hw2.size; omega)) | (simp <;> (have s := hw1.size; omega)) | (have s0 := hw9.size; (try simp at s0); have s1 := hw3.size; (try simp at s1); have s2 := hw2.size; (try simp at s2); have s3 := hw1.size; (try simp at s3); (try simp); omega))⟩
theorem fermiHops_walk (a b c : Int) (ao : Option Addr) (L : List Q) (cap : Nat) (po : Option Addr) (M : List Sp) (pc : Nat) (w : World) (_ : L.length ≤ maxLen) (hm : LiesO w ao L) (_ : M.length ≤ pc) (_ : pc ≤ maxLen) (hp : LiesOI w po (fl M)) (_ : po = none → pc = 0) : Calls Try.prog 3 #[.agg #[.int .i64 a, .int .i64 b, .int .i64 c, .slice ao L.length cap], .slice po M.length pc] w fun e w' => e = .returned (.bool true) ∧ Below w.heap.size w w' := by
  by_cases hn : 100 < M.length ∨ 200 < L.length
  · exact fermiHops_long a b c ao po L M cap pc w hn
  · obtain ⟨ns, r0, hr⟩ := nums7_ex a b c L
    obtain ⟨r, hv⟩ := vS_ex L.length M r0
    by_cases h0 : r = 0
    · subst h0
      obtain rfl := (vS_ok hv).1
      exact fermiHops_ok a b c ao po L ns M cap pc w (by omega) (by omega) hm hp hr hv
    · exact fermiHops_bad a b c r0 r ao po L ns M cap pc w (by omega) (by omega) hm hp hr hv h0

/-! ### The statement of the law FermiHops, out of its walk -/
set_option maxRecDepth 100000 in
theorem fermiHops_lifted (os : Os) (started : os.Started) (H : Type) (enc : TypeId × Value → H) :
    ReturnsInHanded {} Try.checked os 3 .any (Rows.fermiHopsSpec.pre6 enc Try.prog Try.f3 Rows.fermiHopsRow.domain false) (Rows.fermiHopsSpec.post enc Try.prog Try.f3 false true false false) := by
  refine returnsInHanded_of_change (C := Try.checked) own started (by kernel_rfl) Try.func3
    (ChangeSpec.witness6 (enc := enc) (C := Try.checked) false ⟨#[], #[.agg #[.int .i64 0, .int .i64 0, .int .i64 0, .slice none 0 0], .slice none 0 0], []⟩ 8 (by kernel_rfl) (by kernel_rfl) (by kernel_rfl) (by kernel_rfl)) ?_
  intro W base args ds gs before hval0 hW hcnd _
  have hval : ∀ (j : Nat) t v, Try.f3.params[j]? = some t → args[j]? = some v → Value.okWide Try.prog W .any base t v := hval0
  have hW' := hW
  obtain ⟨p, q, hA0, hV, rfl, hfz, hnd⟩ := hW
  have hA : DataW.TrodAll enc Try.prog W 0 (fun _ => true) true Try.f3.params.toList args.toList ds p := hA0
  rw [Try.params3] at hA hval
  obtain ⟨v0, vs0, d0, ds0, p0, q0, hargs, rfl, rfl, h0, r0⟩ := trodAll_cons hA
  obtain ⟨v1, vs1, d1, ds1, p1, q1, rfl, rfl, rfl, h1, r1⟩ := trodAll_cons r0
  obtain ⟨rfl, rfl, rfl⟩ := trodAll_nil r1
  obtain rfl : args = #[v0, v1] := by cases args; simp_all
  obtain ⟨rfl, rfl⟩ := trodVars_none hV
  have k0 := h0
  have lt0 : ∀ x ∈ p0, x.block < W.heap.size := by obtain ⟨m, hm⟩ := k0; exact DataW.trod_lt m _ _ _ hm
  obtain ⟨x0, y0, z0, ao0, L0, cap0, rfl, hl0, hm0⟩ := open_field (hval 0 25 v0 rfl rfl) h0
  have k1 := h1
  have lt1 : ∀ x ∈ p1, x.block < W.heap.size := by obtain ⟨m, hm⟩ := k1; exact DataW.trod_lt m _ _ _ hm
  obtain ⟨po1, M1, pc1, rfl, hkc1, hkl1, hkm1, hkz1⟩ := open_spins (hval 1 26 v1 rfl rfl) h1
  clear hA0 hval0
  refine (fermiHops_walk x0 y0 z0 ao0 L0 cap0 po1 M1 pc1 W hl0 hm0 hkc1 hkl1 hkm1 hkz1).mono fun e W' ⟨he, bel⟩ => ?_
  subst he
  exact ⟨_, rfl, _, _, _, [], _, [], hW', trodAll_mk1 (shut_bool Try.underlying4 _), (trodAll_cons_mk (Below.trod laidOut (by kernel_rfl) (of_decide_eq_true (by kernel_rfl)) k0 bel lt0) (trodAll_cons_mk (Below.trod laidOut (by kernel_rfl) (of_decide_eq_true (by kernel_rfl)) k1 bel lt1) trodAll_mk0)), rfl, bel.frame _, fun h => by cases h⟩

theorem fermiHops_jf9 : (Rows.fermiHopsRow.inPlace == Try.prog.inPlace 3) = true := by kernel_rfl
theorem fermiHops_jf10 : (Rows.fermiHopsRow.unfollowed == Try.prog.unfollowed 3) = true := by kernel_rfl
theorem fermiHops_jf11 : (Rows.fermiHopsRow.recurses == Try.prog.recurses 3) = true := by kernel_rfl
theorem fermiHops_jf12 : (Rows.fermiHopsRow.named == Try.prog.varsNamed 3) = true := by kernel_rfl
theorem fermiHops_facts : joinedFacts Try.prog 3 Try.f3 Rows.fermiHopsSpec Rows.fermiHopsRow = true := by
  unfold joinedFacts
  exact (band (band (band (band (band (band (band (band (band (band (band (band (band (band (band (band (band (band (band (band (band (band (band (band (band (band (band (band (band (band (band (by kernel_rfl) jf1) jf2) (by kernel_rfl)) (by kernel_rfl)) (by kernel_rfl)) jf6) (by kernel_rfl)) jf8) fermiHops_jf9) fermiHops_jf10) fermiHops_jf11) fermiHops_jf12) (by kernel_rfl)) (by kernel_rfl)) (by kernel_rfl)) (by kernel_rfl)) (by kernel_rfl)) (by kernel_rfl)) (by kernel_rfl)) (by kernel_rfl)) (by kernel_rfl)) (by kernel_rfl)) (by kernel_rfl)) jf24) jf25) jf26) jf27) (by kernel_rfl)) (by kernel_rfl)) (by kernel_rfl)) (by kernel_rfl))

theorem fermiHops_over : Rows.fermiHopsRow.holds Try.pinned (OpenSpec.ofChange Rows.fermiHopsSpec) :=
  OpenClaim.holds_of_wide 3 Try.f3 rfl rfl rfl rfl rfl rfl rfl ⟨rfl, rfl, rfl, rfl, rfl⟩ rfl rfl rfl rfl rfl (by kernel_rfl) Try.func3 fermiHops_facts
    (of_decide_eq_true (by kernel_rfl)) (by unfold Func.isWrapper; first | (rw [if_pos (by decide +kernel)]; kernel_rfl) | (rw [if_neg (by decide +kernel)]; exact ⟨rfl, rfl⟩))
    (fun os started H enc _ => fermiHops_lifted os started H enc)

theorem fermiHops_holds : Rows.FermiHopsSaid := fermiHops_over
#print axioms fermiHops_holds

end Go.Proofs.Ytmnlfojcofdaeaa
