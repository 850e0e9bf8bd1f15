/- Rectangles, and means of traces along paths from all sites, as the program makes them.
Conditions: those written at each theorem. -/
import Derived.Test.YtjidbajcnomceaaGreatLsC
import Derived.Test.YtjidbajcnomceaaGreatLqA
namespace Go.Proofs.YtjidbajcnomceaaGreat
set_option linter.unusedVariables false
set_option linter.unusedSimpArgs false
set_option maxRecDepth 1000000
open Go.RowKit
open Um Tm Lm

def Dr (a : Int) : Prop := 0 ≤ a ∧ a ≤ 2
def Sd (m : Int) : Prop := 1 ≤ m ∧ m ≤ 3
set_option maxHeartbeats 400000 in
theorem isDir_any (a : Int) (q : Bool) (w : World) (h : (Dr a ∧ q = true) ∨ (¬ Dr a ∧ q = false)) : Calls Tryz.prog 42 #[.int .i64 a] w fun e w' => e = .returned (.bool q) ∧ w = w' := by
  have h' : (0 ≤ a ∧ a < 3 ∧ q = true) ∨ (¬ 0 ≤ a ∧ q = false) ∨ (0 ≤ a ∧ ¬ a < 3 ∧ q = false) := by
    unfold Dr at h
    rcases h with ⟨h1, h2⟩ | ⟨h1, h2⟩
    · exact .inl ⟨by omega, by omega, h2⟩
    · by_cases h3 : 0 ≤ a
      · exact .inr (.inr ⟨h3, by omega, h2⟩)
      · exact .inr (.inl ⟨h3, h2⟩)
  clear h
  rcases h' with ⟨h1, h2, rfl⟩ | ⟨h1, rfl⟩ | ⟨h1, h2, rfl⟩
  all_goals
    go_enter Tryz.func42, Tryz.ntmps42
    go_wp2
    go_ret
    first | exact ⟨rfl, rfl⟩ | exact ⟨by simp [h2], rfl⟩
set_option maxHeartbeats 400000 in
theorem isSide_any (a : Int) (q : Bool) (w : World) (h : (Sd a ∧ q = true) ∨ (¬ Sd a ∧ q = false)) : Calls Tryz.prog 43 #[.int .i64 a] w fun e w' => e = .returned (.bool q) ∧ w = w' := by
  have h' : (1 ≤ a ∧ a ≤ 3 ∧ q = true) ∨ (¬ 1 ≤ a ∧ q = false) ∨ (1 ≤ a ∧ ¬ a ≤ 3 ∧ q = false) := by
    unfold Sd at h
    rcases h with ⟨h1, h2⟩ | ⟨h1, h2⟩
    · exact .inl ⟨by omega, by omega, h2⟩
    · by_cases h3 : 1 ≤ a
      · exact .inr (.inr ⟨h3, by omega, h2⟩)
      · exact .inr (.inl ⟨h3, h2⟩)
  clear h
  rcases h' with ⟨h1, h2, rfl⟩ | ⟨h1, rfl⟩ | ⟨h1, h2, rfl⟩
  all_goals
    go_enter Tryz.func43, Tryz.ntmps43
    go_wp2
    go_ret
    first | exact ⟨rfl, rfl⟩ | exact ⟨by simp [h2], rfl⟩
/-- a rectangle that there is -/
structure Rc (a b m n : Int) : Prop where
  ha : Dr a
  hb : Dr b
  ne : a ≠ b
  hm : Sd m
  hn : Sd n
  hs : m + n ≤ 4
def rc (a b m n : Int) : List Int := List.replicate m.toNat (a + 1) ++ List.replicate n.toNat (b + 1) ++ List.replicate m.toNat (-a - 1) ++ List.replicate n.toNat (-b - 1)
theorem rc_len (a b m n : Int) : (rc a b m n).length = m.toNat + n.toNat + m.toNat + n.toNat := by simp [rc, Nat.add_assoc]
theorem Rc.len {a b m n : Int} (h : Rc a b m n) : (rc a b m n).length ≤ 8 := by
  rw [rc_len]
  obtain ⟨-, -, -, ⟨m1, m2⟩, ⟨n1, n2⟩, s⟩ := h
  omega
theorem Rc.steps {a b m n : Int} (h : Rc a b m n) : ∀ t ∈ rc a b m n, IsStep t := by
  obtain ⟨⟨a1, a2⟩, ⟨b1, b2⟩, -, -, -, -⟩ := h
  intro t ht
  simp only [rc, List.mem_append, List.mem_replicate] at ht
  rcases ht with ((⟨-, rfl⟩ | ⟨-, rfl⟩) | ⟨-, rfl⟩) | ⟨-, rfl⟩ <;> exact ⟨by omega, by omega, by omega⟩
theorem sm_app (k : Int) (l m : List Int) : sm k (l ++ m) = sm k l + sm k m := by
  refine snoc_ind (p := fun m => sm k (l ++ m) = sm k l + sm k m) (by simp [sm]) (fun m t ih => ?_) m
  rw [← List.append_assoc, sm_snoc, ih, sm_snoc]
  omega
theorem sm_rep (k t : Int) (n : Nat) : sm k (List.replicate n t) = n * dlt k t := by
  induction n with
  | zero => simp [sm]
  | succ n ih =>
    rw [List.replicate_succ', sm_snoc, ih, Int.natCast_add, Int.add_mul]
    simp
theorem dlt_neg (k t : Int) (ht : t ≠ 0) (hk : k ≠ 0) : dlt k (-t) = -dlt k t := by
  unfold dlt
  by_cases h1 : t = k
  · rw [if_pos h1]
    by_cases h2 : -t = k
    · omega
    · rw [if_neg h2]
      by_cases h3 : -t = -k
      · rw [if_pos h3]
      · omega
  · rw [if_neg h1]
    by_cases h2 : t = -k
    · rw [if_pos h2, if_pos (by omega)]; omega
    · rw [if_neg h2, if_neg (by omega), if_neg (by omega)]; omega
theorem Rc.sm {a b m n : Int} (h : Rc a b m n) (k : Int) (hk : k ≠ 0) : sm k (rc a b m n) = 0 := by
  obtain ⟨⟨a1, a2⟩, ⟨b1, b2⟩, -, -, -, -⟩ := h
  unfold rc
  rw [sm_app, sm_app, sm_app, sm_rep, sm_rep, sm_rep, sm_rep]
  have e1 := dlt_neg k (a + 1) (by omega) hk
  have e2 := dlt_neg k (b + 1) (by omega) hk
  rw [show -(a + 1) = -a - 1 by omega] at e1
  rw [show -(b + 1) = -b - 1 by omega] at e2
  rw [e1, e2]
  grind
theorem Rc.clo {a b m n : Int} (h : Rc a b m n) (x y z : Int) : Clo x y z (rc a b m n) := by
  refine ⟨?_, ?_, ?_⟩
  · rw [h.sm 1 (by decide)]; exact Int.dvd_zero _
  · rw [h.sm 2 (by decide)]; exact Int.dvd_zero _
  · rw [h.sm 3 (by decide)]; exact Int.dvd_zero _
set_option maxHeartbeats 3200000 in
theorem rectangle_ok (a b m n : Int) (w : World) (h : Rc a b m n) : Calls Tryz.prog 18 #[.int .i64 a, .int .i64 b, .int .i64 m, .int .i64 n] w fun e w' => (∃ ao c, e = .returned (.tuple #[.slice ao (rc a b m n).length c, .int .i64 0]) ∧ LiesOI w' ao (rc a b m n)) ∧ Below w.heap.size w w' := by
  have d1 := fun W => isDir_any a true W (.inl ⟨h.ha, rfl⟩)
  have d2 := fun W => isDir_any b true W (.inl ⟨h.hb, rfl⟩)
  have d3 := fun W => isSide_any m true W (.inl ⟨h.hm, rfl⟩)
  have d4 := fun W => isSide_any n true W (.inl ⟨h.hn, rfl⟩)
  obtain ⟨⟨a1, a2⟩, ⟨b1, b2⟩, hne, ⟨m1, m2⟩, ⟨n1, n2⟩, s⟩ := h
  have c1 := fun W => straight_any (a + 1) m W m1 (by omega)
  have c2 := fun W => straight_any (b + 1) n W n1 (by omega)
  have c3 := fun W => straight_any (-a - 1) m W m1 (by omega)
  have c4 := fun W => straight_any (-b - 1) n W n1 (by omega)
  have q1 : (a == b) = false := by simpa using hne
  go_enter Tryz.func18, Tryz.ntmps18
  go_wp2_with (fail)
  refine (d1 _).mono ?_
  rintro e wx ⟨rfl, rfl⟩
  go_wp2_with (fail)
  refine (d2 _).mono ?_
  rintro e wx ⟨rfl, rfl⟩
  go_wp2_with (fail)
  refine (d3 _).mono ?_
  rintro e wx ⟨rfl, rfl⟩
  go_wp2_with (fail)
  refine (d4 _).mono ?_
  rintro e wx ⟨rfl, rfl⟩
  go_wp2_with (fail)
  refine (c1 _).mono ?_
  rintro e w1 ⟨g1, rfl, l1, hw1⟩
  have B1 : Below w.heap.size w w1 := by repeat (first | (with_reducible exact Below.refl _ _) | (with_reducible refine Below.setCell ?_ ?_ _) | (with_reducible refine Below.drew ?_) | (with_reducible refine Below.alloc ?_ ?_ _) | (with_reducible refine Below.trans ?_ (Below.mono hw1 ?_)) | (with_reducible exact hw1.size) | omega | (simp <;> omega) | (simp <;> (have s := hw1.size; omega)) | (have s0 := hw1.size; (try simp at s0); (try simp); omega))
  have L1 := Lib.hid l1.o
  clear hw1 l1
  go_wp2_with (fail)
  refine (c2 _).mono ?_
  rintro e w2 ⟨g2, rfl, l2, hw2⟩
  have B2 : Below w.heap.size w w2 := by repeat (first | (with_reducible exact Below.refl _ _) | (with_reducible refine Below.setCell ?_ ?_ _) | (with_reducible refine Below.drew ?_) | (with_reducible refine Below.alloc ?_ ?_ _) | (with_reducible refine Below.trans ?_ (Below.mono hw2 ?_)) | (with_reducible refine Below.trans ?_ (Below.mono B1 ?_)) | (with_reducible exact hw2.size) | (with_reducible exact B1.size) | omega | (simp <;> omega) | (simp <;> (have s := hw2.size; omega)) | (simp <;> (have s := B1.size; omega)) | (have s0 := hw2.size; (try simp at s0); have s1 := B1.size; (try simp at s1); (try simp); omega))
  have L1 := Lib.hid (L1.out.later hw2)
  have L2 := Lib.hid l2.o
  clear hw2 l2 B1
  go_wp2_with (fail)
  refine (c3 _).mono ?_
  rintro e w3 ⟨g3, rfl, l3, hw3⟩
  have B3 : Below w.heap.size w w3 := by repeat (first | (with_reducible exact Below.refl _ _) | (with_reducible refine Below.setCell ?_ ?_ _) | (with_reducible refine Below.drew ?_) | (with_reducible refine Below.alloc ?_ ?_ _) | (with_reducible refine Below.trans ?_ (Below.mono hw3 ?_)) | (with_reducible refine Below.trans ?_ (Below.mono B2 ?_)) | (with_reducible exact hw3.size) | (with_reducible exact B2.size) | omega | (simp <;> omega) | (simp <;> (have s := hw3.size; omega)) | (simp <;> (have s := B2.size; omega)) | (have s0 := hw3.size; (try simp at s0); have s1 := B2.size; (try simp at s1); (try simp); omega))
  have L1 := Lib.hid (L1.out.later hw3)
  have L2 := Lib.hid (L2.out.later hw3)
  have L3 := Lib.hid l3.o
  clear hw3 l3 B2
  go_wp2_with (fail)
  refine (c4 _).mono ?_
  rintro e w4 ⟨g4, rfl, l4, hw4⟩
  have B4 : Below w.heap.size w w4 := by repeat (first | (with_reducible exact Below.refl _ _) | (with_reducible refine Below.setCell ?_ ?_ _) | (with_reducible refine Below.drew ?_) | (with_reducible refine Below.alloc ?_ ?_ _) | (with_reducible refine Below.trans ?_ (Below.mono hw4 ?_)) | (with_reducible refine Below.trans ?_ (Below.mono B3 ?_)) | (with_reducible exact hw4.size) | (with_reducible exact B3.size) | omega | (simp <;> omega) | (simp <;> (have s := hw4.size; omega)) | (simp <;> (have s := B3.size; omega)) | (have s0 := hw4.size; (try simp at s0); have s1 := B3.size; (try simp at s1); (try simp); omega))
  have L1 := Lib.hid (L1.out.later hw4)
  have L2 := Lib.hid (L2.out.later hw4)
  have L3 := Lib.hid (L3.out.later hw4)
  have L4 := Lib.hid l4.o
  clear hw4 l4 B3
  go_wp2_with (fail)
  refine (concat4_any w4.heap.size (some ⟨g1, 0, none⟩) (some ⟨g2, 0, none⟩) (some ⟨g3, 0, none⟩) (some ⟨g4, 0, none⟩) m.toNat n.toNat m.toNat n.toNat _ _ _ _ _ (by simp [go_sem]) (by simp [go_sem]) (by simp [go_sem]) (by simp [go_sem]) (L1.out.later ba1) (L2.out.later ba1) (L3.out.later ba1) (L4.out.later ba1) (by simp; omega) (by simp; omega) (by simp; omega) (by simp; omega)).mono ?_
  rintro e w5 ⟨ao, c, rfl, hl, hw5⟩
  have HL := Lib.hid hl.o
  clear hl
  go_wp2
  go_ret2
  exact ⟨⟨ao, c, by simp [rc_len, Nat.add_assoc], HL.out⟩, by repeat (first | (with_reducible exact Below.refl _ _) | (with_reducible refine Below.setCell ?_ ?_ _) | (with_reducible refine Below.drew ?_) | (with_reducible refine Below.alloc ?_ ?_ _) | (with_reducible refine Below.trans ?_ (Below.mono hw5 ?_)) | (with_reducible refine Below.trans ?_ (Below.mono B4 ?_)) | (with_reducible exact hw5.size) | (with_reducible exact B4.size) | omega | (simp <;> omega) | (simp <;> (have s := hw5.size; omega)) | (simp <;> (have s := B4.size; omega)) | (have s0 := hw5.size; (try simp at s0); have s1 := B4.size; (try simp at s1); (try simp); omega))⟩
set_option maxHeartbeats 3200000 in
theorem rectangle_bad (a b m n : Int) (w : World) (h : ¬ Rc a b m n) : Calls Tryz.prog 18 #[.int .i64 a, .int .i64 b, .int .i64 m, .int .i64 n] w fun e w' => e = .returned (.tuple #[.slice none 0 0, .int .i64 1]) ∧ Below w.heap.size w w' := by
  by_cases h1 : Dr a
  · have d1 := fun W => isDir_any a true W (.inl ⟨h1, rfl⟩)
    by_cases h2 : Dr b
    · have d2 := fun W => isDir_any b true W (.inl ⟨h2, rfl⟩)
      by_cases h3 : a = b
      · have q1 : (a == b) = true := by simpa using h3
        clear h h1 h2 h3
        go_enter Tryz.func18, Tryz.ntmps18
        go_wp2_with (fail)
        refine (d1 _).mono ?_
        rintro e wx ⟨rfl, rfl⟩
        go_wp2_with (fail)
        refine (d2 _).mono ?_
        rintro e wx ⟨rfl, rfl⟩
        go_wp2
        go_ret2
        exact ⟨rfl, by repeat (first | (with_reducible exact Below.refl _ _) | (with_reducible refine Below.setCell ?_ ?_ _) | (with_reducible refine Below.drew ?_) | (with_reducible refine Below.alloc ?_ ?_ _) | omega | (simp <;> omega))⟩
      · have q1 : (a == b) = false := by simpa using h3
        by_cases h4 : Sd m
        · have d3 := fun W => isSide_any m true W (.inl ⟨h4, rfl⟩)
          by_cases h5 : Sd n
          · have d4 := fun W => isSide_any n true W (.inl ⟨h5, rfl⟩)
            have h6 : ¬ m + n ≤ 4 := fun h6 => h ⟨h1, h2, h3, h4, h5, h6⟩
            obtain ⟨m1, m2⟩ := h4
            obtain ⟨n1, n2⟩ := h5
            have h7 : 4 < m + n := by omega
            clear h h1 h2 h3
            go_enter Tryz.func18, Tryz.ntmps18
            go_wp2_with (fail)
            refine (d1 _).mono ?_
            rintro e wx ⟨rfl, rfl⟩
            go_wp2_with (fail)
            refine (d2 _).mono ?_
            rintro e wx ⟨rfl, rfl⟩
            go_wp2_with (fail)
            refine (d3 _).mono ?_
            rintro e wx ⟨rfl, rfl⟩
            go_wp2_with (fail)
            refine (d4 _).mono ?_
            rintro e wx ⟨rfl, rfl⟩
            go_wp2
            go_ret2
            exact ⟨rfl, by repeat (first | (with_reducible exact Below.refl _ _) | (with_reducible refine Below.setCell ?_ ?_ _) | (with_reducible refine Below.drew ?_) | (with_reducible refine Below.alloc ?_ ?_ _) | omega | (simp <;> omega))⟩
          · have d4 := fun W => isSide_any n false W (.inr ⟨h5, rfl⟩)
            clear h h1 h2 h3 h4 h5
            go_enter Tryz.func18, Tryz.ntmps18
            go_wp2_with (fail)
            refine (d1 _).mono ?_
            rintro e wx ⟨rfl, rfl⟩
            go_wp2_with (fail)
            refine (d2 _).mono ?_
            rintro e wx ⟨rfl, rfl⟩
            go_wp2_with (fail)
            refine (d3 _).mono ?_
            rintro e wx ⟨rfl, rfl⟩
            go_wp2_with (fail)
            refine (d4 _).mono ?_
            rintro e wx ⟨rfl, rfl⟩
            go_wp2
            go_ret2
            exact ⟨rfl, by repeat (first | (with_reducible exact Below.refl _ _) | (with_reducible refine Below.setCell ?_ ?_ _) | (with_reducible refine Below.drew ?_) | (with_reducible refine Below.alloc ?_ ?_ _) | omega | (simp <;> omega))⟩
        · have d3 := fun W => isSide_any m false W (.inr ⟨h4, rfl⟩)
          clear h h1 h2 h3 h4
          go_enter Tryz.func18, Tryz.ntmps18
          go_wp2_with (fail)
          refine (d1 _).mono ?_
          rintro e wx ⟨rfl, rfl⟩
          go_wp2_with (fail)
          refine (d2 _).mono ?_
          rintro e wx ⟨rfl, rfl⟩
          go_wp2_with (fail)
          refine (d3 _).mono ?_
          rintro e wx ⟨rfl, rfl⟩
          go_wp2
          go_ret2
          exact ⟨rfl, by repeat (first | (with_reducible exact Below.refl _ _) | (with_reducible refine Below.setCell ?_ ?_ _) | (with_reducible refine Below.drew ?_) | (with_reducible refine Below.alloc ?_ ?_ _) | omega | (simp <;> omega))⟩
    · have d2 := fun W => isDir_any b false W (.inr ⟨h2, rfl⟩)
      clear h h1 h2
      go_enter Tryz.func18, Tryz.ntmps18
      go_wp2_with (fail)
      refine (d1 _).mono ?_
      rintro e wx ⟨rfl, rfl⟩
      go_wp2_with (fail)
      refine (d2 _).mono ?_
      rintro e wx ⟨rfl, rfl⟩
      go_wp2
      go_ret2
      exact ⟨rfl, by repeat (first | (with_reducible exact Below.refl _ _) | (with_reducible refine Below.setCell ?_ ?_ _) | (with_reducible refine Below.drew ?_) | (with_reducible refine Below.alloc ?_ ?_ _) | omega | (simp <;> omega))⟩
  · have d1 := fun W => isDir_any a false W (.inr ⟨h1, rfl⟩)
    clear h h1
    go_enter Tryz.func18, Tryz.ntmps18
    go_wp2_with (fail)
    refine (d1 _).mono ?_
    rintro e wx ⟨rfl, rfl⟩
    go_wp2
    go_ret2
    exact ⟨rfl, by repeat (first | (with_reducible exact Below.refl _ _) | (with_reducible refine Below.setCell ?_ ?_ _) | (with_reducible refine Below.drew ?_) | (with_reducible refine Below.alloc ?_ ?_ _) | omega | (simp <;> omega))⟩
end Go.Proofs.YtjidbajcnomceaaGreat
