/- Which vectors of quaternions are right, as the program and the document's answers find it, and how a vector is read off an argument.
Conditions: the lists lie in memory as it is written at each theorem. -/
import Derived.Test.YtmnlfojcofdaeaaSgnC
import Derived.OpenShut
namespace Go.Proofs.Ytmnlfojcofdaeaa
set_option linter.unusedVariables false
set_option linter.unusedSimpArgs false
set_option maxRecDepth 1000000
open Go.RowKit
open Um Tm Fm

/-- all entries are in range -/
def InS (m : Int) (x : Sp) : Prop := (-m ≤ x.a ∧ x.a ≤ m) ∧ (-m ≤ x.b ∧ x.b ≤ m) ∧ (-m ≤ x.c ∧ x.c ≤ m) ∧ (-m ≤ x.d ∧ x.d ≤ m)
instance (m : Int) (x : Sp) : Decidable (InS m x) := by unfold InS; infer_instance
def AllE (m : Int) (M : List Sp) : Prop := ∀ (i : Nat) (x : Sp), M[i]? = some x → InS m x
theorem alle_next {m : Int} {M : List Sp} {k : Nat} {x : Sp} (h : ∀ (i : Nat) (y : Sp), i < k → M[i]? = some y → InS m y) (hx : M[k]? = some x) (hi : InS m x) : ∀ (i : Nat) (y : Sp), i < k + 1 → M[i]? = some y → InS m y := fun i y hl hy => by
  by_cases h1 : i < k
  · exact h i y h1 hy
  · obtain rfl : i = k := by omega
    rw [hx] at hy
    cases hy
    exact hi
theorem ins_bad {m : Int} {x : Sp} (h : ¬ InS m x) : (x.a < -m) ∨ (¬ x.a < -m ∧ x.a > m) ∨ (¬ x.a < -m ∧ ¬ x.a > m ∧ x.b < -m) ∨ (¬ x.a < -m ∧ ¬ x.a > m ∧ ¬ x.b < -m ∧ x.b > m) ∨ (¬ x.a < -m ∧ ¬ x.a > m ∧ ¬ x.b < -m ∧ ¬ x.b > m ∧ x.c < -m) ∨ (¬ x.a < -m ∧ ¬ x.a > m ∧ ¬ x.b < -m ∧ ¬ x.b > m ∧ ¬ x.c < -m ∧ x.c > m) ∨ (¬ x.a < -m ∧ ¬ x.a > m ∧ ¬ x.b < -m ∧ ¬ x.b > m ∧ ¬ x.c < -m ∧ ¬ x.c > m ∧ x.d < -m) ∨ (¬ x.a < -m ∧ ¬ x.a > m ∧ ¬ x.b < -m ∧ ¬ x.b > m ∧ ¬ x.c < -m ∧ ¬ x.c > m ∧ ¬ x.d < -m ∧ x.d > m) := by
  unfold InS at h; omega
theorem ins_good {m : Int} {x : Sp} (h : InS m x) : ¬ x.a < -m ∧ ¬ x.a > m ∧ ¬ x.b < -m ∧ ¬ x.b > m ∧ ¬ x.c < -m ∧ ¬ x.c > m ∧ ¬ x.d < -m ∧ ¬ x.d > m := by
  unfold InS at h; omega
theorem lies_some {w : World} {po : Option Addr} {M : List Sp} {x : Sp} {k : Nat} (h : LiesOI w po (fl M)) (hx : M[k]? = some x) : ∃ b off, po = some ⟨b, off, none⟩ ∧ LiesI w b off (fl M) := by
  rcases h with h | h
  · have := (fl_four hx).1
    rw [h] at this
    simp at this
  · exact h
/-- whether all entries are in range -/
def inR (m : Int) (M : List Sp) (r : Bool) : Prop := (AllE m M ∧ r = true) ∨ (¬ AllE m M ∧ r = false)
theorem inR_ex (m : Int) (M : List Sp) : ∃ r, inR m M r := by
  by_cases h : AllE m M
  · exact ⟨true, .inl ⟨h, rfl⟩⟩
  · exact ⟨false, .inr ⟨h, rfl⟩⟩
set_option maxHeartbeats 3200000 in
theorem isWithin7_any (most : Int) (po : Option Addr) (M : List Sp) (cap : Nat) (w : World) (r : Bool) (h : LiesOI w po (fl M)) (m0 : 0 ≤ most) (m1 : most ≤ 268435456) (hlen : M.length ≤ 1000000) (hr : inR most M r) : Calls Try.prog 54 #[.slice po M.length cap, .int .i64 most] w fun e w' => e = .returned (.bool r) ∧ Below w.heap.size w w' := by
  have HP := Lib.hid h
  have HR := Lib.hid hr
  clear h hr
  go_enter Try.func54, Try.ntmps54
  go_wp2
  go_loopw [6, 8, 11] (fun _ _ q wr => ∃ k : Nat, k ≤ M.length ∧ q = .int .i64 k ∧ Hid (∀ (i : Nat) (x : Sp), i < k → M[i]? = some x → InS most x) ∧ Below w.heap.size w wr) (fun _ _ q _ => M.length - (intOf q).toNat)
  case atStart => exact ⟨0, by omega, rfl, Lib.hid (by omega), by repeat (first | (with_reducible exact Below.refl _ _) | (with_reducible refine Below.setCell ?_ ?_ _) | (with_reducible refine Below.drew ?_) | (with_reducible refine Below.alloc ?_ ?_ _) | omega | (simp <;> omega))⟩
  case round =>
    obtain ⟨k, hk, rfl, hall, hb⟩ := hrel
    by_cases hlt : k < M.length
    · obtain ⟨pb, off, rfl, hpl⟩ := lies_some HP.out (List.getElem?_eq_getElem hlt)
      have i1 : (k : Int) < (M.length : Int) := by omega
      obtain ⟨x0, x1, x2, x3⟩ := four_at (hpl.later hb) (List.getElem?_eq_getElem hlt)
      have hn := fun h => alle_next hall.out (List.getElem?_eq_getElem hlt) h
      have hno : ¬ InS most M[k] → r = false := fun h => by
        rcases HR.out with ⟨g, -⟩ | ⟨-, g⟩
        · exact absurd (g k _ (List.getElem?_eq_getElem hlt)) h
        · exact g
      generalize M[k] = x at *
      have j0 := ixS0 x.a x.b x.c x.d
      have j1 := ixS1 x.a x.b x.c x.d
      have j2 := ixS2 x.a x.b x.c x.d
      have j3 := ixS3 x.a x.b x.c x.d
      by_cases hin : InS most x
      · have HN := Lib.hid (hn hin)
        obtain ⟨g0, g1, g2, g3, g4, g5, g6, g7⟩ := ins_good hin
        clear hn hno hin hall hpl
        go_wp2
        refine wp_loop_rounds 5 ?_
        rw [rounds_succ]
        go_wp2
        rw [rounds_succ]
        go_wp2
        rw [rounds_succ]
        go_wp2
        rw [rounds_succ]
        go_wp2
        rw [rounds_succ]
        go_wp2
        exact ⟨⟨k + 1, by omega, by go_num, Lib.hid HN.out, by repeat (first | (with_reducible exact Below.refl _ _) | (with_reducible refine Below.setCell ?_ ?_ _) | (with_reducible refine Below.drew ?_) | (with_reducible refine Below.alloc ?_ ?_ _) | (with_reducible refine Below.trans ?_ (Below.mono hb ?_)) | (with_reducible exact hb.size) | omega | (simp <;> omega) | (simp <;> (have s := hb.size; omega)) | (have s0 := hb.size; (try simp at s0); (try simp); omega))⟩, by simp [intOf]; omega⟩
      · obtain rfl := hno hin
        have hbad := ins_bad hin
        clear hn hno hin hall hpl
        rcases hbad with ⟨g0⟩ | ⟨g0, g1⟩ | ⟨g0, g1, g2⟩ | ⟨g0, g1, g2, g3⟩ | ⟨g0, g1, g2, g3, g4⟩ | ⟨g0, g1, g2, g3, g4, g5⟩ | ⟨g0, g1, g2, g3, g4, g5, g6⟩ | ⟨g0, g1, g2, g3, g4, g5, g6, g7⟩
        · go_wp2
          refine wp_loop_rounds 1 ?_
          rw [rounds_succ]
          go_wp2
          go_ret
          exact ⟨rfl, by repeat (first | (with_reducible exact Below.refl _ _) | (with_reducible refine Below.setCell ?_ ?_ _) | (with_reducible refine Below.drew ?_) | (with_reducible refine Below.alloc ?_ ?_ _) | (with_reducible refine Below.trans ?_ (Below.mono hb ?_)) | (with_reducible exact hb.size) | omega | (simp <;> omega) | (simp <;> (have s := hb.size; omega)) | (have s0 := hb.size; (try simp at s0); (try simp); omega))⟩
        · go_wp2
          refine wp_loop_rounds 1 ?_
          rw [rounds_succ]
          go_wp2
          go_ret
          exact ⟨rfl, by repeat (first | (with_reducible exact Below.refl _ _) | (with_reducible refine Below.setCell ?_ ?_ _) | (with_reducible refine Below.drew ?_) | (with_reducible refine Below.alloc ?_ ?_ _) | (with_reducible refine Below.trans ?_ (Below.mono hb ?_)) | (with_reducible exact hb.size) | omega | (simp <;> omega) | (simp <;> (have s := hb.size; omega)) | (have s0 := hb.size; (try simp at s0); (try simp); omega))⟩
        · go_wp2
          refine wp_loop_rounds 2 ?_
          rw [rounds_succ]
          go_wp2
          rw [rounds_succ]
          go_wp2
          go_ret
          exact ⟨rfl, by repeat (first | (with_reducible exact Below.refl _ _) | (with_reducible refine Below.setCell ?_ ?_ _) | (with_reducible refine Below.drew ?_) | (with_reducible refine Below.alloc ?_ ?_ _) | (with_reducible refine Below.trans ?_ (Below.mono hb ?_)) | (with_reducible exact hb.size) | omega | (simp <;> omega) | (simp <;> (have s := hb.size; omega)) | (have s0 := hb.size; (try simp at s0); (try simp); omega))⟩
        · go_wp2
          refine wp_loop_rounds 2 ?_
          rw [rounds_succ]
          go_wp2
          rw [rounds_succ]
          go_wp2
          go_ret
          exact ⟨rfl, by repeat (first | (with_reducible exact Below.refl _ _) | (with_reducible refine Below.setCell ?_ ?_ _) | (with_reducible refine Below.drew ?_) | (with_reducible refine Below.alloc ?_ ?_ _) | (with_reducible refine Below.trans ?_ (Below.mono hb ?_)) | (with_reducible exact hb.size) | omega | (simp <;> omega) | (simp <;> (have s := hb.size; omega)) | (have s0 := hb.size; (try simp at s0); (try simp); omega))⟩
        · go_wp2
          refine wp_loop_rounds 3 ?_
          rw [rounds_succ]
          go_wp2
          rw [rounds_succ]
          go_wp2
          rw [rounds_succ]
          go_wp2
          go_ret
          exact ⟨rfl, by repeat (first | (with_reducible exact Below.refl _ _) | (with_reducible refine Below.setCell ?_ ?_ _) | (with_reducible refine Below.drew ?_) | (with_reducible refine Below.alloc ?_ ?_ _) | (with_reducible refine Below.trans ?_ (Below.mono hb ?_)) | (with_reducible exact hb.size) | omega | (simp <;> omega) | (simp <;> (have s := hb.size; omega)) | (have s0 := hb.size; (try simp at s0); (try simp); omega))⟩
        · go_wp2
          refine wp_loop_rounds 3 ?_
          rw [rounds_succ]
          go_wp2
          rw [rounds_succ]
          go_wp2
          rw [rounds_succ]
          go_wp2
          go_ret
          exact ⟨rfl, by repeat (first | (with_reducible exact Below.refl _ _) | (with_reducible refine Below.setCell ?_ ?_ _) | (with_reducible refine Below.drew ?_) | (with_reducible refine Below.alloc ?_ ?_ _) | (with_reducible refine Below.trans ?_ (Below.mono hb ?_)) | (with_reducible exact hb.size) | omega | (simp <;> omega) | (simp <;> (have s := hb.size; omega)) | (have s0 := hb.size; (try simp at s0); (try simp); omega))⟩
        · go_wp2
          refine wp_loop_rounds 4 ?_
          rw [rounds_succ]
          go_wp2
          rw [rounds_succ]
          go_wp2
          rw [rounds_succ]
          go_wp2
          rw [rounds_succ]
          go_wp2
          go_ret
          exact ⟨rfl, by repeat (first | (with_reducible exact Below.refl _ _) | (with_reducible refine Below.setCell ?_ ?_ _) | (with_reducible refine Below.drew ?_) | (with_reducible refine Below.alloc ?_ ?_ _) | (with_reducible refine Below.trans ?_ (Below.mono hb ?_)) | (with_reducible exact hb.size) | omega | (simp <;> omega) | (simp <;> (have s := hb.size; omega)) | (have s0 := hb.size; (try simp at s0); (try simp); omega))⟩
        · go_wp2
          refine wp_loop_rounds 4 ?_
          rw [rounds_succ]
          go_wp2
          rw [rounds_succ]
          go_wp2
          rw [rounds_succ]
          go_wp2
          rw [rounds_succ]
          go_wp2
          go_ret
          exact ⟨rfl, by repeat (first | (with_reducible exact Below.refl _ _) | (with_reducible refine Below.setCell ?_ ?_ _) | (with_reducible refine Below.drew ?_) | (with_reducible refine Below.alloc ?_ ?_ _) | (with_reducible refine Below.trans ?_ (Below.mono hb ?_)) | (with_reducible exact hb.size) | omega | (simp <;> omega) | (simp <;> (have s := hb.size; omega)) | (have s0 := hb.size; (try simp at s0); (try simp); omega))⟩
    · obtain rfl : k = M.length := by omega
      obtain rfl : r = true := by
        rcases HR.out with ⟨-, g⟩ | ⟨g, -⟩
        · exact g
        · exact absurd (fun i x hx => hall.out i x (List.getElem?_eq_some_iff.1 hx).1 hx) g
      clear hall
      go_wp2
      go_ret
      exact ⟨rfl, hb⟩
/-- the error of a list as a vector of a field with m links -/
def vecR (m : Nat) (M : List Sp) (most r : Int) : Prop := (M.length * 3 ≠ m ∧ r = 1) ∨ (M.length * 3 = m ∧ AllE most M ∧ r = 0) ∨ (M.length * 3 = m ∧ ¬ AllE most M ∧ r = 1)
theorem vecR_ex (m : Nat) (M : List Sp) (most : Int) : ∃ r, vecR m M most r := by
  by_cases h1 : M.length * 3 = m
  · by_cases h2 : AllE most M
    · exact ⟨0, .inr (.inl ⟨h1, h2, rfl⟩)⟩
    · exact ⟨1, .inr (.inr ⟨h1, h2, rfl⟩)⟩
  · exact ⟨1, .inl ⟨h1, rfl⟩⟩
def wnB (m n : Int) : Bool := decide (-m ≤ n ∧ n ≤ m)
theorem wn_true {m n : Int} (h : wnB m n = true) : -m ≤ n ∧ n ≤ m := of_decide_eq_true h
theorem wn_false {m n : Int} (h : wnB m n = false) : ¬ (-m ≤ n ∧ n ≤ m) := of_decide_eq_false h
theorem wn_any (m n : Int) (w : World) (q : Bool) (h : wnB m n = q) : Calls Try.prog 59 #[.int .i64 n, .int .i64 (-m), .int .i64 m] w fun e w' => e = .returned (.bool q) ∧ w = w' := by
  refine within7_any n (-m) m w q ?_
  cases q with
  | true => have := wn_true h; exact .inl ⟨this.1, this.2, rfl⟩
  | false => exact .inr ⟨wn_false h, rfl⟩
theorem ins_wn {m : Int} {x : Sp} : InS m x ↔ wnB m x.a = true ∧ wnB m x.b = true ∧ wnB m x.c = true ∧ wnB m x.d = true := by
  unfold InS wnB; simp only [decide_eq_true_eq]
theorem ins_four {m : Int} {x : Sp} (h : ¬ InS m x) : wnB m x.a = false ∨ (wnB m x.a = true ∧ wnB m x.b = false) ∨ (wnB m x.a = true ∧ wnB m x.b = true ∧ wnB m x.c = false) ∨ (wnB m x.a = true ∧ wnB m x.b = true ∧ wnB m x.c = true ∧ wnB m x.d = false) := by
  rw [ins_wn] at h
  cases h1 : wnB m x.a <;> cases h2 : wnB m x.b <;> cases h3 : wnB m x.c <;> cases h4 : wnB m x.d <;> simp_all
set_option maxHeartbeats 3200000 in
theorem vector_any (a b c most r : Int) (ao po : Option Addr) (cap pc : Nat) (L : List Q) (M : List Sp) (w : World) (h : LiesOI w po (fl M)) (m0 : 0 ≤ most) (m1 : most ≤ 268435456) (hlen : M.length ≤ 1000000) (hlL : L.length ≤ 1000000) (hr : vecR L.length M most r) : Calls Try.prog 56 #[.agg #[.int .i64 a, .int .i64 b, .int .i64 c, .slice ao L.length cap], .slice po M.length pc, .int .i64 most] w fun e w' => e = .returned (.int .i64 r) ∧ Below w.heap.size w w' := by
  have HP := Lib.hid h
  rcases hr with ⟨h1, rfl⟩ | hr
  · have t1 : (3 * (M.length : Int) != (L.length : Int)) = true := by simp; omega
    clear h h1
    go_enter Try.func56, Try.ntmps56
    go_wp2
    go_ret
    exact ⟨rfl, by repeat (first | (with_reducible exact Below.refl _ _) | (with_reducible refine Below.setCell ?_ ?_ _) | (with_reducible refine Below.drew ?_) | (with_reducible refine Below.alloc ?_ ?_ _) | omega | (simp <;> omega))⟩
  · have t1 : (3 * (M.length : Int) != (L.length : Int)) = false := by simp; omega
    have hr' : (AllE most M ∧ r = 0) ∨ (¬ AllE most M ∧ r = 1) := by
      rcases hr with ⟨-, h2, h3⟩ | ⟨-, h2, h3⟩
      · exact .inl ⟨h2, h3⟩
      · exact .inr ⟨h2, h3⟩
    have HR := Lib.hid hr'
    clear h hr hr'
    go_enter Try.func56, Try.ntmps56
    go_wp2
    go_loopw [7, 8] (fun q _ wr => ∃ k : Nat, k ≤ M.length ∧ q = .int .i64 k ∧ Hid (∀ (i : Nat) (x : Sp), i < k → M[i]? = some x → InS most x) ∧ Below w.heap.size w wr) (fun q _ _ => M.length - (intOf q).toNat)
    case atStart => exact ⟨0, by omega, rfl, Lib.hid (by omega), by repeat (first | (with_reducible exact Below.refl _ _) | (with_reducible refine Below.setCell ?_ ?_ _) | (with_reducible refine Below.drew ?_) | (with_reducible refine Below.alloc ?_ ?_ _) | omega | (simp <;> omega))⟩
    case round =>
      obtain ⟨k, hk, rfl, hall, hb⟩ := hrel
      by_cases hlt : k < M.length
      · obtain ⟨pb, off, rfl, hpl⟩ := lies_some HP.out (List.getElem?_eq_getElem hlt)
        have i1 : (k : Int) < (M.length : Int) := by omega
        obtain ⟨x0, x1, x2, x3⟩ := four_at (hpl.later hb) (List.getElem?_eq_getElem hlt)
        have hn := fun h => alle_next hall.out (List.getElem?_eq_getElem hlt) h
        have hno : ¬ InS most M[k] → r = 1 := fun h => by
          rcases HR.out with ⟨g, -⟩ | ⟨-, g⟩
          · exact absurd (g k _ (List.getElem?_eq_getElem hlt)) h
          · exact g
        generalize M[k] = x at *
        have d0 := fun (q : Bool) (W : World) => wn_any most x.a W q
        have d1 := fun (q : Bool) (W : World) => wn_any most x.b W q
        have d2 := fun (q : Bool) (W : World) => wn_any most x.c W q
        have d3 := fun (q : Bool) (W : World) => wn_any most x.d W q
        by_cases hin : InS most x
        · have HN := Lib.hid (hn hin)
          obtain ⟨g0, g1, g2, g3⟩ := ins_wn.1 hin
          have c0 := fun W => d0 true W g0
          have c1 := fun W => d1 true W g1
          have c2 := fun W => d2 true W g2
          have c3 := fun W => d3 true W g3
          clear hn hno hin hall hpl g0 g1 g2 g3 d0 d1 d2 d3
          go_wp2
          refine wp_loop_rounds 5 ?_
          rw [rounds_succ]
          go_wp2_with ((with_reducible refine (c0 _).mono ?_); clear c0; rintro e w2 ⟨rfl, rfl⟩)
          rw [rounds_succ]
          go_wp2_with ((with_reducible refine (c1 _).mono ?_); clear c1; rintro e w2 ⟨rfl, rfl⟩)
          rw [rounds_succ]
          go_wp2_with ((with_reducible refine (c2 _).mono ?_); clear c2; rintro e w2 ⟨rfl, rfl⟩)
          rw [rounds_succ]
          go_wp2_with ((with_reducible refine (c3 _).mono ?_); clear c3; rintro e w2 ⟨rfl, rfl⟩)
          rw [rounds_succ]
          go_wp2
          exact ⟨⟨k + 1, by omega, by go_num, Lib.hid HN.out, by repeat (first | (with_reducible exact Below.refl _ _) | (with_reducible refine Below.setCell ?_ ?_ _) | (with_reducible refine Below.drew ?_) | (with_reducible refine Below.alloc ?_ ?_ _) | (with_reducible refine Below.trans ?_ (Below.mono hb ?_)) | (with_reducible exact hb.size) | omega | (simp <;> omega) | (simp <;> (have s := hb.size; omega)) | (have s0 := hb.size; (try simp at s0); (try simp); omega))⟩, by simp [intOf]; omega⟩
        · obtain rfl := hno hin
          have hbad := ins_four hin
          clear hn hno hin hall hpl
          rcases hbad with g0 | ⟨g0, g1⟩ | ⟨g0, g1, g2⟩ | ⟨g0, g1, g2, g3⟩
          · have c0 := fun W => d0 false W g0
            clear d0 d1 d2 d3 g0
            go_wp2
            refine wp_loop_rounds 1 ?_
            rw [rounds_succ]
            go_wp2_with ((with_reducible refine (c0 _).mono ?_); clear c0; rintro e w2 ⟨rfl, rfl⟩)
            go_ret
            exact ⟨rfl, by repeat (first | (with_reducible exact Below.refl _ _) | (with_reducible refine Below.setCell ?_ ?_ _) | (with_reducible refine Below.drew ?_) | (with_reducible refine Below.alloc ?_ ?_ _) | (with_reducible refine Below.trans ?_ (Below.mono hb ?_)) | (with_reducible exact hb.size) | omega | (simp <;> omega) | (simp <;> (have s := hb.size; omega)) | (have s0 := hb.size; (try simp at s0); (try simp); omega))⟩
          · have c0 := fun W => d0 true W g0
            have c1 := fun W => d1 false W g1
            clear d0 d1 d2 d3 g0 g1
            go_wp2
            refine wp_loop_rounds 2 ?_
            rw [rounds_succ]
            go_wp2_with ((with_reducible refine (c0 _).mono ?_); clear c0; rintro e w2 ⟨rfl, rfl⟩)
            rw [rounds_succ]
            go_wp2_with ((with_reducible refine (c1 _).mono ?_); clear c1; rintro e w2 ⟨rfl, rfl⟩)
            go_ret
            exact ⟨rfl, by repeat (first | (with_reducible exact Below.refl _ _) | (with_reducible refine Below.setCell ?_ ?_ _) | (with_reducible refine Below.drew ?_) | (with_reducible refine Below.alloc ?_ ?_ _) | (with_reducible refine Below.trans ?_ (Below.mono hb ?_)) | (with_reducible exact hb.size) | omega | (simp <;> omega) | (simp <;> (have s := hb.size; omega)) | (have s0 := hb.size; (try simp at s0); (try simp); omega))⟩
          · have c0 := fun W => d0 true W g0
            have c1 := fun W => d1 true W g1
            have c2 := fun W => d2 false W g2
            clear d0 d1 d2 d3 g0 g1 g2
            go_wp2
            refine wp_loop_rounds 3 ?_
            rw [rounds_succ]
            go_wp2_with ((with_reducible refine (c0 _).mono ?_); clear c0; rintro e w2 ⟨rfl, rfl⟩)
            rw [rounds_succ]
            go_wp2_with ((with_reducible refine (c1 _).mono ?_); clear c1; rintro e w2 ⟨rfl, rfl⟩)
            rw [rounds_succ]
            go_wp2_with ((with_reducible refine (c2 _).mono ?_); clear c2; rintro e w2 ⟨rfl, rfl⟩)
            go_ret
            exact ⟨rfl, by repeat (first | (with_reducible exact Below.refl _ _) | (with_reducible refine Below.setCell ?_ ?_ _) | (with_reducible refine Below.drew ?_) | (with_reducible refine Below.alloc ?_ ?_ _) | (with_reducible refine Below.trans ?_ (Below.mono hb ?_)) | (with_reducible exact hb.size) | omega | (simp <;> omega) | (simp <;> (have s := hb.size; omega)) | (have s0 := hb.size; (try simp at s0); (try simp); omega))⟩
          · have c0 := fun W => d0 true W g0
            have c1 := fun W => d1 true W g1
            have c2 := fun W => d2 true W g2
            have c3 := fun W => d3 false W g3
            clear d0 d1 d2 d3 g0 g1 g2 g3
            go_wp2
            refine wp_loop_rounds 4 ?_
            rw [rounds_succ]
            go_wp2_with ((with_reducible refine (c0 _).mono ?_); clear c0; rintro e w2 ⟨rfl, rfl⟩)
            rw [rounds_succ]
            go_wp2_with ((with_reducible refine (c1 _).mono ?_); clear c1; rintro e w2 ⟨rfl, rfl⟩)
            rw [rounds_succ]
            go_wp2_with ((with_reducible refine (c2 _).mono ?_); clear c2; rintro e w2 ⟨rfl, rfl⟩)
            rw [rounds_succ]
            go_wp2_with ((with_reducible refine (c3 _).mono ?_); clear c3; rintro e w2 ⟨rfl, rfl⟩)
            go_ret
            exact ⟨rfl, by repeat (first | (with_reducible exact Below.refl _ _) | (with_reducible refine Below.setCell ?_ ?_ _) | (with_reducible refine Below.drew ?_) | (with_reducible refine Below.alloc ?_ ?_ _) | (with_reducible refine Below.trans ?_ (Below.mono hb ?_)) | (with_reducible exact hb.size) | omega | (simp <;> omega) | (simp <;> (have s := hb.size; omega)) | (have s0 := hb.size; (try simp at s0); (try simp); omega))⟩
      · obtain rfl : k = M.length := by omega
        obtain rfl : r = 0 := by
          rcases HR.out with ⟨-, g⟩ | ⟨g, -⟩
          · exact g
          · exact absurd (fun i x hx => hall.out i x (List.getElem?_eq_some_iff.1 hx).1 hx) g
        clear hall
        go_wp2
        go_ret
        exact ⟨rfl, hb⟩
end Go.Proofs.Ytmnlfojcofdaeaa
