/- Rectangles as the document's answers make them.
Conditions: those written at each theorem. -/
import Derived.Test.YtjidbajcnomceaaGreatLyC
import Derived.Test.YtjidbajcnomceaaGreatLoopY
namespace Go.Proofs.YtjidbajcnomceaaGreat
set_option linter.unusedVariables false
set_option linter.unusedSimpArgs false
set_option maxRecDepth 1000000
open Go.RowKit
open Um Tm Lm

theorem rep_succ (P : List Int) (t : Int) (k : Nat) : (P ++ List.replicate (k + 1) t).map vi = (P ++ List.replicate k t).map vi ++ [vi t] := by
  rw [List.replicate_succ', ← List.append_assoc, List.map_append]; rfl
set_option maxHeartbeats 6400000 in
theorem refRectangle_ok (a b m n : Int) (w : World) (h : Rc a b m n) : Calls Tryz.prog 19 #[.int .i64 a, .int .i64 b, .int .i64 m, .int .i64 n] w fun e w' => (∃ ao c, e = .returned (.tuple #[.slice ao (rc a b m n).length c, .int .i64 0]) ∧ LiesOI w' ao (rc a b m n)) ∧ Below w.heap.size w w' := by
  have d1 := fun W => within3_any a 0 2 W true (.inl ⟨h.ha.1, h.ha.2, rfl⟩)
  have d2 := fun W => within3_any b 0 2 W true (.inl ⟨h.hb.1, h.hb.2, rfl⟩)
  have d3 := fun W => within3_any m 1 3 W true (.inl ⟨h.hm.1, h.hm.2, rfl⟩)
  have d4 := fun W => within3_any n 1 3 W true (.inl ⟨h.hn.1, h.hn.2, rfl⟩)
  obtain ⟨i0, hi, hz0, hz1, hz2⟩ := info_parts infoI
  have hrc : rc a b m n = List.replicate m.toNat (a + 1) ++ List.replicate n.toNat (b + 1) ++ List.replicate m.toNat (-a - 1) ++ List.replicate n.toNat (-b - 1) := rfl
  obtain ⟨⟨a1, a2⟩, ⟨b1, b2⟩, hne, ⟨m1, m2⟩, ⟨n1, n2⟩, s⟩ := h
  obtain ⟨M, rfl⟩ : ∃ M : Nat, m = M := ⟨m.toNat, by omega⟩
  obtain ⟨N, rfl⟩ : ∃ N : Nat, n = N := ⟨n.toNat, by omega⟩
  rw [Int.toNat_natCast, Int.toNat_natCast] at hrc
  generalize rc a b M N = R at *
  subst hrc
  have q1 : (a == b) = false := by simpa using hne
  go_enter Tryz.func19, Tryz.ntmps19
  have O0 : Hid (w.ownsRow w.heap.size 3 1 (.slice none 0 0) ([] : List Int).length (([] : List Int).map vi)) := Lib.hid (World.ownsRow_nil _ _ _ _)
  go_wp2_with (fail)
  refine (d1 _).mono ?_
  rintro e wx ⟨rfl, rfl⟩
  go_wp2_with (fail)
  refine (d2 _).mono ?_
  rintro e wx ⟨rfl, rfl⟩
  go_wp2_with (fail)
  refine (d3 _).mono ?_
  rintro e wx ⟨rfl, rfl⟩
  go_wp2_with (fail)
  refine (d4 _).mono ?_
  rintro e wx ⟨rfl, rfl⟩
  go_wp2
  go_loopw [10, 11] (fun f q wr => ∃ (k : Nat) (v : Value), k ≤ M ∧ q = .int .i64 k ∧ v = f ∧ Hid (wr.ownsRow w.heap.size 3 1 v (([] : List Int) ++ List.replicate k (a + 1)).length ((([] : List Int) ++ List.replicate k (a + 1)).map vi)) ∧ Below w.heap.size w wr) (fun _ q _ => M - (intOf q).toNat)
  case atStart => exact ⟨0, _, by omega, rfl, rfl, by rw [List.replicate_zero, List.append_nil]; exact O0, Below.refl _ _⟩
  case round =>
    obtain ⟨k0, v0, hk, rfl, rfl, hown, hb⟩ := hrel
    have hbs := hb.size
    by_cases hlt : k0 < M
    · have i1 : (k0 : Int) < (M : Int) := by omega
      have hst := Lib.hid (rep_succ ([] : List Int) (a + 1) k0)
      have hlen : (([] : List Int) ++ List.replicate k0 (a + 1)).length ≤ 1000 := by simp; omega
      have hln : (([] : List Int) ++ List.replicate (k0 + 1) (a + 1)).length = (([] : List Int) ++ List.replicate k0 (a + 1)).length + 1 := by simp <;> omega
      have HLn := Lib.hid hln
      clear hln
      generalize (([] : List Int) ++ List.replicate k0 (a + 1)) = Y at *
      go_wp2_with (at_builtin; refine wpList_append_own _ rfl (.tmp 49) (.tmp 52) 26 rfl w.heap.size 3 i0 _ 1 8 Tryz.underlying26 hi hz0 hz1 hz2 rfl (by decide) v0 Y.length (Y.map vi) rfl (hown.out.alloc _) ⟨wr.heap.size, 0, none⟩ 1 1 [vi (a + 1)] rfl rfl (one_cell (by simp [go_sem, vi])) (one_one _) (by unfold maxLen; omega) (by omega) (by simp <;> omega) ?_; intro v' w4 hown4 hgrow4 _)
      have hfr := owned_from hown.out
      have hb4 := (hb.alloc hbs _).grown hgrow4 (by simp <;> omega) (fun j hj => by have := hfr j hj; omega)
      have ho : w4.ownsRow w.heap.size 3 1 v' (([] : List Int) ++ List.replicate (k0 + 1) (a + 1)).length ((([] : List Int) ++ List.replicate (k0 + 1) (a + 1)).map vi) := by rw [hst.out, HLn.out]; exact hown4
      clear hown4 hgrow4 hown hst HLn
      go_wp2
      exact ⟨⟨k0 + 1, _, by omega, by go_num, rfl, Lib.hid ho, hb4⟩, by simp [intOf]; omega⟩
    · obtain rfl : M = k0 := by omega
      have O1 := hown
      have B1 := hb
      clear hown hb
      go_wp2
      go_loopw [10, 12] (fun f q wr => ∃ (k : Nat) (v : Value), k ≤ N ∧ q = .int .i64 k ∧ v = f ∧ Hid (wr.ownsRow w.heap.size 3 1 v ((([] : List Int) ++ List.replicate M (a + 1)) ++ List.replicate k (b + 1)).length (((([] : List Int) ++ List.replicate M (a + 1)) ++ List.replicate k (b + 1)).map vi)) ∧ Below w.heap.size w wr) (fun _ q _ => N - (intOf q).toNat)
      case atStart => exact ⟨0, _, by omega, rfl, rfl, by rw [List.replicate_zero, List.append_nil]; exact O1, B1⟩
      case round =>
        obtain ⟨k1, v1, hk, rfl, rfl, hown, hb⟩ := hrel
        have hbs := hb.size
        by_cases hlt : k1 < N
        · have i1 : (k1 : Int) < (N : Int) := by omega
          have hst := Lib.hid (rep_succ (([] : List Int) ++ List.replicate M (a + 1)) (b + 1) k1)
          have hlen : ((([] : List Int) ++ List.replicate M (a + 1)) ++ List.replicate k1 (b + 1)).length ≤ 1000 := by simp; omega
          have hln : ((([] : List Int) ++ List.replicate M (a + 1)) ++ List.replicate (k1 + 1) (b + 1)).length = ((([] : List Int) ++ List.replicate M (a + 1)) ++ List.replicate k1 (b + 1)).length + 1 := by simp <;> omega
          have HLn := Lib.hid hln
          clear hln
          generalize ((([] : List Int) ++ List.replicate M (a + 1)) ++ List.replicate k1 (b + 1)) = Y at *
          go_wp2_with (at_builtin; refine wpList_append_own _ rfl (.tmp 59) (.tmp 62) 26 rfl w.heap.size 3 i0 _ 1 8 Tryz.underlying26 hi hz0 hz1 hz2 rfl (by decide) v1 Y.length (Y.map vi) rfl (hown.out.alloc _) ⟨wr.heap.size, 0, none⟩ 1 1 [vi (b + 1)] rfl rfl (one_cell (by simp [go_sem, vi])) (one_one _) (by unfold maxLen; omega) (by omega) (by simp <;> omega) ?_; intro v' w4 hown4 hgrow4 _)
          have hfr := owned_from hown.out
          have hb4 := (hb.alloc hbs _).grown hgrow4 (by simp <;> omega) (fun j hj => by have := hfr j hj; omega)
          have ho : w4.ownsRow w.heap.size 3 1 v' ((([] : List Int) ++ List.replicate M (a + 1)) ++ List.replicate (k1 + 1) (b + 1)).length (((([] : List Int) ++ List.replicate M (a + 1)) ++ List.replicate (k1 + 1) (b + 1)).map vi) := by rw [hst.out, HLn.out]; exact hown4
          clear hown4 hgrow4 hown hst HLn
          go_wp2
          exact ⟨⟨k1 + 1, _, by omega, by go_num, rfl, Lib.hid ho, hb4⟩, by simp [intOf]; omega⟩
        · obtain rfl : N = k1 := by omega
          have O2 := hown
          have B2 := hb
          clear hown hb
          go_wp2
          go_loopw [10, 13] (fun f q wr => ∃ (k : Nat) (v : Value), k ≤ M ∧ q = .int .i64 k ∧ v = f ∧ Hid (wr.ownsRow w.heap.size 3 1 v (((([] : List Int) ++ List.replicate M (a + 1)) ++ List.replicate N (b + 1)) ++ List.replicate k (-a - 1)).length ((((([] : List Int) ++ List.replicate M (a + 1)) ++ List.replicate N (b + 1)) ++ List.replicate k (-a - 1)).map vi)) ∧ Below w.heap.size w wr) (fun _ q _ => M - (intOf q).toNat)
          case atStart => exact ⟨0, _, by omega, rfl, rfl, by rw [List.replicate_zero, List.append_nil]; exact O2, B2⟩
          case round =>
            obtain ⟨k2, v2, hk, rfl, rfl, hown, hb⟩ := hrel
            have hbs := hb.size
            by_cases hlt : k2 < M
            · have i1 : (k2 : Int) < (M : Int) := by omega
              have hst := Lib.hid (rep_succ ((([] : List Int) ++ List.replicate M (a + 1)) ++ List.replicate N (b + 1)) (-a - 1) k2)
              have hlen : (((([] : List Int) ++ List.replicate M (a + 1)) ++ List.replicate N (b + 1)) ++ List.replicate k2 (-a - 1)).length ≤ 1000 := by simp; omega
              have hln : (((([] : List Int) ++ List.replicate M (a + 1)) ++ List.replicate N (b + 1)) ++ List.replicate (k2 + 1) (-a - 1)).length = (((([] : List Int) ++ List.replicate M (a + 1)) ++ List.replicate N (b + 1)) ++ List.replicate k2 (-a - 1)).length + 1 := by simp <;> omega
              have HLn := Lib.hid hln
              clear hln
              generalize (((([] : List Int) ++ List.replicate M (a + 1)) ++ List.replicate N (b + 1)) ++ List.replicate k2 (-a - 1)) = Y at *
              go_wp2_with (at_builtin; refine wpList_append_own _ rfl (.tmp 69) (.tmp 73) 26 rfl w.heap.size 3 i0 _ 1 8 Tryz.underlying26 hi hz0 hz1 hz2 rfl (by decide) v2 Y.length (Y.map vi) rfl (hown.out.alloc _) ⟨wr.heap.size, 0, none⟩ 1 1 [vi (-a - 1)] rfl rfl (one_cell (by simp [go_sem, vi])) (one_one _) (by unfold maxLen; omega) (by omega) (by simp <;> omega) ?_; intro v' w4 hown4 hgrow4 _)
              have hfr := owned_from hown.out
              have hb4 := (hb.alloc hbs _).grown hgrow4 (by simp <;> omega) (fun j hj => by have := hfr j hj; omega)
              have ho : w4.ownsRow w.heap.size 3 1 v' (((([] : List Int) ++ List.replicate M (a + 1)) ++ List.replicate N (b + 1)) ++ List.replicate (k2 + 1) (-a - 1)).length ((((([] : List Int) ++ List.replicate M (a + 1)) ++ List.replicate N (b + 1)) ++ List.replicate (k2 + 1) (-a - 1)).map vi) := by rw [hst.out, HLn.out]; exact hown4
              clear hown4 hgrow4 hown hst HLn
              go_wp2
              exact ⟨⟨k2 + 1, _, by omega, by go_num, rfl, Lib.hid ho, hb4⟩, by simp [intOf]; omega⟩
            · obtain rfl : M = k2 := by omega
              have O3 := hown
              have B3 := hb
              clear hown hb
              go_wp2
              go_loopw [10, 14] (fun f q wr => ∃ (k : Nat) (v : Value), k ≤ N ∧ q = .int .i64 k ∧ v = f ∧ Hid (wr.ownsRow w.heap.size 3 1 v ((((([] : List Int) ++ List.replicate M (a + 1)) ++ List.replicate N (b + 1)) ++ List.replicate M (-a - 1)) ++ List.replicate k (-b - 1)).length (((((([] : List Int) ++ List.replicate M (a + 1)) ++ List.replicate N (b + 1)) ++ List.replicate M (-a - 1)) ++ List.replicate k (-b - 1)).map vi)) ∧ Below w.heap.size w wr) (fun _ q _ => N - (intOf q).toNat)
              case atStart => exact ⟨0, _, by omega, rfl, rfl, by rw [List.replicate_zero, List.append_nil]; exact O3, B3⟩
              case round =>
                obtain ⟨k3, v3, hk, rfl, rfl, hown, hb⟩ := hrel
                have hbs := hb.size
                by_cases hlt : k3 < N
                · have i1 : (k3 : Int) < (N : Int) := by omega
                  have hst := Lib.hid (rep_succ (((([] : List Int) ++ List.replicate M (a + 1)) ++ List.replicate N (b + 1)) ++ List.replicate M (-a - 1)) (-b - 1) k3)
                  have hlen : ((((([] : List Int) ++ List.replicate M (a + 1)) ++ List.replicate N (b + 1)) ++ List.replicate M (-a - 1)) ++ List.replicate k3 (-b - 1)).length ≤ 1000 := by simp; omega
                  have hln : ((((([] : List Int) ++ List.replicate M (a + 1)) ++ List.replicate N (b + 1)) ++ List.replicate M (-a - 1)) ++ List.replicate (k3 + 1) (-b - 1)).length = ((((([] : List Int) ++ List.replicate M (a + 1)) ++ List.replicate N (b + 1)) ++ List.replicate M (-a - 1)) ++ List.replicate k3 (-b - 1)).length + 1 := by simp <;> omega
                  have HLn := Lib.hid hln
                  clear hln
                  generalize ((((([] : List Int) ++ List.replicate M (a + 1)) ++ List.replicate N (b + 1)) ++ List.replicate M (-a - 1)) ++ List.replicate k3 (-b - 1)) = Y at *
                  go_wp2_with (at_builtin; refine wpList_append_own _ rfl (.tmp 80) (.tmp 84) 26 rfl w.heap.size 3 i0 _ 1 8 Tryz.underlying26 hi hz0 hz1 hz2 rfl (by decide) v3 Y.length (Y.map vi) rfl (hown.out.alloc _) ⟨wr.heap.size, 0, none⟩ 1 1 [vi (-b - 1)] rfl rfl (one_cell (by simp [go_sem, vi])) (one_one _) (by unfold maxLen; omega) (by omega) (by simp <;> omega) ?_; intro v' w4 hown4 hgrow4 _)
                  have hfr := owned_from hown.out
                  have hb4 := (hb.alloc hbs _).grown hgrow4 (by simp <;> omega) (fun j hj => by have := hfr j hj; omega)
                  have ho : w4.ownsRow w.heap.size 3 1 v' ((((([] : List Int) ++ List.replicate M (a + 1)) ++ List.replicate N (b + 1)) ++ List.replicate M (-a - 1)) ++ List.replicate (k3 + 1) (-b - 1)).length (((((([] : List Int) ++ List.replicate M (a + 1)) ++ List.replicate N (b + 1)) ++ List.replicate M (-a - 1)) ++ List.replicate (k3 + 1) (-b - 1)).map vi) := by rw [hst.out, HLn.out]; exact hown4
                  clear hown4 hgrow4 hown hst HLn
                  go_wp2
                  exact ⟨⟨k3 + 1, _, by omega, by go_num, rfl, Lib.hid ho, hb4⟩, by simp [intOf]; omega⟩
                · obtain rfl : N = k3 := by omega
                  have O4 := hown
                  have B4 := hb
                  clear hown hb
                  have ho := O4.out
                  rw [List.nil_append] at ho
                  obtain ⟨ao, cv, rfl, hl⟩ := owned_liesOI ho
                  have HL := Lib.hid hl
                  clear ho hl
                  go_wp2
                  go_ret2
                  exact ⟨⟨ao, cv, rfl, HL.out⟩, B4⟩
set_option maxHeartbeats 3200000 in
theorem refRectangle_bad (a b m n : Int) (w : World) (h : ¬ Rc a b m n) : Calls Tryz.prog 19 #[.int .i64 a, .int .i64 b, .int .i64 m, .int .i64 n] w fun e w' => e = .returned (.tuple #[.slice none 0 0, .int .i64 1]) ∧ Below w.heap.size w w' := by
  by_cases h1 : Dr a
  · have d1 := fun W => within3_any a 0 2 W true (.inl ⟨h1.1, h1.2, rfl⟩)
    by_cases h2 : Dr b
    · have d2 := fun W => within3_any b 0 2 W true (.inl ⟨h2.1, h2.2, rfl⟩)
      by_cases h0 : a = b
      · have q1 : (a == b) = true := by simpa using h0
        clear h h1 h2 h0
        go_enter Tryz.func19, Tryz.ntmps19
        go_wp2_with (fail)
        refine (d1 _).mono ?_
        rintro e wx ⟨rfl, rfl⟩
        go_wp2_with (fail)
        refine (d2 _).mono ?_
        rintro e wx ⟨rfl, rfl⟩
        go_wp2
        go_ret2
        exact ⟨rfl, by repeat (first | (with_reducible exact Below.refl _ _) | (with_reducible refine Below.setCell ?_ ?_ _) | (with_reducible refine Below.drew ?_) | (with_reducible refine Below.alloc ?_ ?_ _) | omega | (simp <;> omega))⟩
      · have q1 : (a == b) = false := by simpa using h0
        by_cases h3 : Sd m
        · have d3 := fun W => within3_any m 1 3 W true (.inl ⟨h3.1, h3.2, rfl⟩)
          by_cases h4 : Sd n
          · have d4 := fun W => within3_any n 1 3 W true (.inl ⟨h4.1, h4.2, rfl⟩)
            have h6 : ¬ m + n ≤ 4 := fun h6 => h ⟨h1, h2, h0, h3, h4, h6⟩
            obtain ⟨m1, m2⟩ := h3
            obtain ⟨n1, n2⟩ := h4
            have h7 : 4 < m + n := by omega
            clear h h1 h2 h0
            go_enter Tryz.func19, Tryz.ntmps19
            go_wp2_with (fail)
            refine (d1 _).mono ?_
            rintro e wx ⟨rfl, rfl⟩
            go_wp2_with (fail)
            refine (d2 _).mono ?_
            rintro e wx ⟨rfl, rfl⟩
            go_wp2_with (fail)
            refine (d3 _).mono ?_
            rintro e wx ⟨rfl, rfl⟩
            go_wp2_with (fail)
            refine (d4 _).mono ?_
            rintro e wx ⟨rfl, rfl⟩
            go_wp2
            go_ret2
            exact ⟨rfl, by repeat (first | (with_reducible exact Below.refl _ _) | (with_reducible refine Below.setCell ?_ ?_ _) | (with_reducible refine Below.drew ?_) | (with_reducible refine Below.alloc ?_ ?_ _) | omega | (simp <;> omega))⟩
          · have d4 := fun W => within3_any n 1 3 W false (.inr ⟨h4, rfl⟩)
            clear h h1 h2 h3 h4
            go_enter Tryz.func19, Tryz.ntmps19
            go_wp2_with (fail)
            refine (d1 _).mono ?_
            rintro e wx ⟨rfl, rfl⟩
            go_wp2_with (fail)
            refine (d2 _).mono ?_
            rintro e wx ⟨rfl, rfl⟩
            go_wp2_with (fail)
            refine (d3 _).mono ?_
            rintro e wx ⟨rfl, rfl⟩
            go_wp2_with (fail)
            refine (d4 _).mono ?_
            rintro e wx ⟨rfl, rfl⟩
            go_wp2
            go_ret2
            exact ⟨rfl, by repeat (first | (with_reducible exact Below.refl _ _) | (with_reducible refine Below.setCell ?_ ?_ _) | (with_reducible refine Below.drew ?_) | (with_reducible refine Below.alloc ?_ ?_ _) | omega | (simp <;> omega))⟩
        · have d3 := fun W => within3_any m 1 3 W false (.inr ⟨h3, rfl⟩)
          clear h h1 h2 h3
          go_enter Tryz.func19, Tryz.ntmps19
          go_wp2_with (fail)
          refine (d1 _).mono ?_
          rintro e wx ⟨rfl, rfl⟩
          go_wp2_with (fail)
          refine (d2 _).mono ?_
          rintro e wx ⟨rfl, rfl⟩
          go_wp2_with (fail)
          refine (d3 _).mono ?_
          rintro e wx ⟨rfl, rfl⟩
          go_wp2
          go_ret2
          exact ⟨rfl, by repeat (first | (with_reducible exact Below.refl _ _) | (with_reducible refine Below.setCell ?_ ?_ _) | (with_reducible refine Below.drew ?_) | (with_reducible refine Below.alloc ?_ ?_ _) | omega | (simp <;> omega))⟩
    · have d2 := fun W => within3_any b 0 2 W false (.inr ⟨h2, rfl⟩)
      clear h h1 h2
      go_enter Tryz.func19, Tryz.ntmps19
      go_wp2_with (fail)
      refine (d1 _).mono ?_
      rintro e wx ⟨rfl, rfl⟩
      go_wp2_with (fail)
      refine (d2 _).mono ?_
      rintro e wx ⟨rfl, rfl⟩
      go_wp2
      go_ret2
      exact ⟨rfl, by repeat (first | (with_reducible exact Below.refl _ _) | (with_reducible refine Below.setCell ?_ ?_ _) | (with_reducible refine Below.drew ?_) | (with_reducible refine Below.alloc ?_ ?_ _) | omega | (simp <;> omega))⟩
  · have d1 := fun W => within3_any a 0 2 W false (.inr ⟨h1, rfl⟩)
    clear h h1
    go_enter Tryz.func19, Tryz.ntmps19
    go_wp2_with (fail)
    refine (d1 _).mono ?_
    rintro e wx ⟨rfl, rfl⟩
    go_wp2
    go_ret2
    exact ⟨rfl, by repeat (first | (with_reducible exact Below.refl _ _) | (with_reducible refine Below.setCell ?_ ?_ _) | (with_reducible refine Below.drew ?_) | (with_reducible refine Below.alloc ?_ ?_ _) | omega | (simp <;> omega))⟩
end Go.Proofs.YtjidbajcnomceaaGreat
