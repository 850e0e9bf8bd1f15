/- Sums of loops as the document reckons with them: how paths are compared, plain paths, what is refused.
Conditions: those written at each theorem. -/
import Derived.Test.YtjidbajcnomceaaLooC
namespace Go.Proofs.Ytjidbajcnomceaa
set_option linter.unusedVariables false
set_option linter.unusedSimpArgs false
set_option maxRecDepth 1000000
open Go.RowKit
open Um Tm Lm

theorem within3_any (n lo hi : Int) (w : World) (r : Bool) (h : (lo ≤ n ∧ n ≤ hi ∧ r = true) ∨ (¬ (lo ≤ n ∧ n ≤ hi) ∧ r = false)) :
    Calls Try.prog 47 #[.int .i64 n, .int .i64 lo, .int .i64 hi] w fun e w' => e = .returned (.bool r) ∧ w = w' := by
  rcases h with ⟨a, b, rfl⟩ | ⟨h, rfl⟩
  · go_enter Try.func47, Try.ntmps47
    go_wp2
    go_ret
    exact ⟨rfl, rfl⟩
  · by_cases a : lo ≤ n
    · have b : ¬ n ≤ hi := fun b => h ⟨a, b⟩
      clear h
      go_enter Try.func47, Try.ntmps47
      go_wp2
      go_ret
      exact ⟨rfl, rfl⟩
    · clear h
      go_enter Try.func47, Try.ntmps47
      go_wp2
      go_ret
      exact ⟨rfl, rfl⟩
set_option maxHeartbeats 3200000 in
theorem less_any (a1 a2 : Option Addr) (c1 c2 : Nat) (l m : List Int) (w : World) (h1 : LiesOI w a1 l) (h2 : LiesOI w a2 m) (n1 : l.length ≤ 1000000) (n2 : m.length ≤ 1000000) : Calls Try.prog 67 #[.slice a1 l.length c1, .slice a2 m.length c2] w fun e w' => e = .returned (.bool (decide (cmpL l m < 0))) ∧ Below w.heap.size w w' := by
  have H1 := Lib.hid h1
  have H2 := Lib.hid h2
  obtain ⟨r, hR⟩ : ∃ r, r = decide (cmpL l m < 0) := ⟨_, rfl⟩
  rw [← hR]
  have HR0 : Hid (r = decide (cmpL (l.drop 0) (m.drop 0) < 0)) := Lib.hid (by simpa using hR)
  clear h1 h2 hR
  have kc := @Tail.cell_re
  have kc1 : ∀ (W : World) (o : Obj) (d : Nat) (os : Array Obj) (a : Addr), a.block ≤ W.heap.size → (Sort.grow (redrawn (W.alloc o) d) os).cell? a = (W.alloc o).cell? a := fun W o d os a h => Tail.cell_re (W.alloc o) d os a (Nat.lt_of_le_of_lt h (by simp))
  go_enter Try.func67, Try.ntmps67
  go_wp2
  go_loopw [5] (fun q wr => ∃ k : Nat, k ≤ l.length ∧ k ≤ m.length ∧ q = .int .i64 k ∧ Hid (r = decide (cmpL (l.drop k) (m.drop k) < 0)) ∧ Below w.heap.size w wr) (fun q _ => l.length - (intOf q).toNat)
  case atStart => exact ⟨0, by omega, by omega, rfl, HR0, Below.refl _ _⟩
  case round =>
    obtain ⟨k, k1, k2, rfl, HR, hb⟩ := hrel
    clear HR0
    by_cases hlt : k < l.length
    · have i1 : (k : Int) < (l.length : Int) := by omega
      have hx : l[k]? = some l[k] := List.getElem?_eq_getElem hlt
      obtain ⟨b1, o1, rfl, hl1⟩ : ∃ b o, a1 = some ⟨b, o, none⟩ ∧ LiesI w b o l := by
        rcases H1.out with h | h
        · subst h; simp at hlt
        · exact h
      have x0 := hl1.later hb k _ hx
      have lb1 : b1 < wr.heap.size := World.block_lt_of_cell? wr _ x0
      by_cases hlt2 : k < m.length
      · have i3 : (k : Int) < (m.length : Int) := by omega
        have hy : m[k]? = some m[k] := List.getElem?_eq_getElem hlt2
        obtain ⟨b2, o2, rfl, hl2⟩ : ∃ b o, a2 = some ⟨b, o, none⟩ ∧ LiesI w b o m := by
          rcases H2.out with h | h
          · subst h; simp at hlt2
          · exact h
        have y0 := hl2.later hb k _ hy
        have lb2 : b2 < wr.heap.size := World.block_lt_of_cell? wr _ y0
        have hd := cmpL_drop l m k hlt hlt2
        generalize l[k] = x at *
        generalize m[k] = y at *
        have HD := Lib.hid hd
        clear hl1 hl2 hd hx hy
        by_cases hc : x = y
        · subst hc
          have HN : Hid (r = decide (cmpL (l.drop (k + 1)) (m.drop (k + 1)) < 0)) := Lib.hid (by rw [HR.out, HD.out, if_pos (cmpI_zero.2 rfl)])
          clear HR HD
          go_wp2
          refine Tail.region_below (by kernel_rfl) (by kernel_rfl) ?_
          repeat (go_big_quiet_step (fail))
          refine wpQuiet_nil ?_
          intro w1 hw1
          go_wp2
          exact ⟨⟨k + 1, by omega, by omega, by go_num, HN, by repeat (first | (with_reducible exact Below.refl _ _) | (with_reducible refine Below.setCell ?_ ?_ _) | (with_reducible refine Below.drew ?_) | (with_reducible refine Below.alloc ?_ ?_ _) | (with_reducible refine Below.trans ?_ (Below.mono hw1 ?_)) | (with_reducible refine Below.trans ?_ (Below.mono hb ?_)) | (with_reducible exact hw1.size) | (with_reducible exact hb.size) | omega | (simp <;> omega) | (simp <;> (have s := hw1.size; omega)) | (simp <;> (have s := hb.size; omega)) | (have s0 := hw1.size; (try simp at s0); have s1 := hb.size; (try simp at s1); (try simp); omega))⟩, by simp [intOf]; omega⟩
        · have q1 : (x != y) = true := by simpa using hc
          have e2 : r = decide (x < y) := by
            rw [HR.out, HD.out, if_neg (fun e => hc (cmpI_zero.1 e))]
            exact decide_eq_decide.2 cmpI_lt
          clear HR HD hc
          by_cases hxy : x < y
          · obtain rfl : r = true := by rw [e2]; simpa using hxy
            clear e2
            go_wp2
            refine Tail.region_below (by kernel_rfl) (by kernel_rfl) ?_
            repeat (go_big_quiet_step (fail))
            refine wpQuiet_nil ?_
            intro w1 hw1
            have x1 := (cell_keep hw1 x0)
            have y1 := (cell_keep hw1 y0)
            have lb1' : b1 < w1.heap.size := World.block_lt_of_cell? w1 _ x1
            have lb2' : b2 < w1.heap.size := World.block_lt_of_cell? w1 _ y1
            go_wp2
            refine Tail.region_below (by kernel_rfl) (by kernel_rfl) ?_
            repeat (go_big_quiet_step (fail))
            refine wpQuiet_nil ?_
            intro w2 hw2
            go_wp2
            go_ret
            exact ⟨rfl, by repeat (first | (with_reducible exact Below.refl _ _) | (with_reducible refine Below.setCell ?_ ?_ _) | (with_reducible refine Below.drew ?_) | (with_reducible refine Below.alloc ?_ ?_ _) | (with_reducible refine Below.trans ?_ (Below.mono hw2 ?_)) | (with_reducible refine Below.trans ?_ (Below.mono hw1 ?_)) | (with_reducible refine Below.trans ?_ (Below.mono hb ?_)) | (with_reducible exact hw2.size) | (with_reducible exact hw1.size) | (with_reducible exact hb.size) | omega | (simp <;> omega) | (simp <;> (have s := hw2.size; omega)) | (simp <;> (have s := hw1.size; omega)) | (simp <;> (have s := hb.size; omega)) | (have s0 := hw2.size; (try simp at s0); have s1 := hw1.size; (try simp at s1); have s2 := hb.size; (try simp at s2); (try simp); omega))⟩
          · obtain rfl : r = false := by rw [e2]; simpa using hxy
            clear e2
            go_wp2
            refine Tail.region_below (by kernel_rfl) (by kernel_rfl) ?_
            repeat (go_big_quiet_step (fail))
            refine wpQuiet_nil ?_
            intro w1 hw1
            have x1 := (cell_keep hw1 x0)
            have y1 := (cell_keep hw1 y0)
            have lb1' : b1 < w1.heap.size := World.block_lt_of_cell? w1 _ x1
            have lb2' : b2 < w1.heap.size := World.block_lt_of_cell? w1 _ y1
            go_wp2
            refine Tail.region_below (by kernel_rfl) (by kernel_rfl) ?_
            repeat (go_big_quiet_step (fail))
            refine wpQuiet_nil ?_
            intro w2 hw2
            go_wp2
            go_ret
            exact ⟨by simp [hxy], by repeat (first | (with_reducible exact Below.refl _ _) | (with_reducible refine Below.setCell ?_ ?_ _) | (with_reducible refine Below.drew ?_) | (with_reducible refine Below.alloc ?_ ?_ _) | (with_reducible refine Below.trans ?_ (Below.mono hw2 ?_)) | (with_reducible refine Below.trans ?_ (Below.mono hw1 ?_)) | (with_reducible refine Below.trans ?_ (Below.mono hb ?_)) | (with_reducible exact hw2.size) | (with_reducible exact hw1.size) | (with_reducible exact hb.size) | omega | (simp <;> omega) | (simp <;> (have s := hw2.size; omega)) | (simp <;> (have s := hw1.size; omega)) | (simp <;> (have s := hb.size; omega)) | (have s0 := hw2.size; (try simp at s0); have s1 := hw1.size; (try simp at s1); have s2 := hb.size; (try simp at s2); (try simp); omega))⟩
      · have i2 : ¬ (k : Int) < (m.length : Int) := by omega
        have i4 : ¬ (l.length : Int) < (m.length : Int) := by omega
        have e2 : r = false := by rw [HR.out, cmpL_over l m k hlt (by omega)]; rfl
        subst e2
        clear hl1 hx
        go_wp2
        go_ret
        exact ⟨rfl, hb⟩
    · obtain rfl : k = l.length := by omega
      by_cases hlt2 : l.length < m.length
      · have i4 : (l.length : Int) < (m.length : Int) := by omega
        have e2 : r = true := by rw [HR.out, cmpL_end l m _ (Nat.le_refl _), if_pos hlt2]; rfl
        subst e2
        go_wp2
        go_ret
        exact ⟨rfl, hb⟩
      · have i4 : ¬ (l.length : Int) < (m.length : Int) := by omega
        have e2 : r = false := by rw [HR.out, cmpL_end l m _ (Nat.le_refl _), if_neg hlt2]; rfl
        subst e2
        go_wp2
        go_ret
        exact ⟨rfl, hb⟩
set_option maxHeartbeats 1600000 in
theorem shape_any (ao : Option Addr) (cap : Nat) (l : List Int) (w : World) (h : LiesOI w ao l) (hs : ∀ t ∈ l, IsStep t) (h8 : l.length ≤ 1000) : Calls Try.prog 39 #[.slice ao l.length cap] w fun e w' => ∃ a c, e = .returned (.slice a (plL l).length c) ∧ LiesOI w' a (plL l) ∧ Below w.heap.size w w' := by
  have H := Lib.hid h
  have hl := red_len l
  have HS := Lib.hid hs
  obtain ⟨P, hP⟩ : ∃ P, P = plL l := ⟨_, rfl⟩
  rw [← hP]
  have HPl := Lib.hid hP
  clear h hs hP
  go_enter Try.func39, Try.ntmps39
  go_wp2_with (fail)
  refine (shorter_any ao cap l _ (H.out.later (by repeat (first | (with_reducible exact Below.refl _ _) | (with_reducible refine Below.setCell ?_ ?_ _) | (with_reducible refine Below.drew ?_) | (with_reducible refine Below.alloc ?_ ?_ _) | omega | (simp <;> omega)))) HS.out h8).mono ?_
  rintro e w1 ⟨a1, k1, rfl, hl1, hw1⟩
  have H1 := Lib.hid hl1
  have HB1 : Hid (Below w.heap.size w w1) := Lib.hid (by repeat (first | (with_reducible exact Below.refl _ _) | (with_reducible refine Below.setCell ?_ ?_ _) | (with_reducible refine Below.drew ?_) | (with_reducible refine Below.alloc ?_ ?_ _) | (with_reducible refine Below.trans ?_ (Below.mono hw1 ?_)) | (with_reducible exact hw1.size) | omega | (simp <;> omega) | (simp <;> (have s := hw1.size; omega)) | (have s0 := hw1.size; (try simp at s0); (try simp); omega)))
  clear hl1 hw1
  go_wp2_with (fail)
  refine (opposite_any a1 k1 (red l) _ H1.out (red_steps HS.out) (by omega)).mono ?_
  rintro e w2 ⟨a2, k2, rfl, hl2, hw2⟩
  have H1 := Lib.hid (H1.out.later hw2)
  have H2 := Lib.hid hl2
  have HB2 := Lib.hid (HB1.out.trans (hw2.mono HB1.out.size))
  clear hl2 hw2 HB1
  have cL := fun W h1 h2 => less_any a2 a1 k2 k1 (opp (red l)) (red l) W h1 h2 (by rw [opp_len]; omega) (by omega)
  have hn := cmpL_neg (red l) (opp (red l))
  by_cases hc : cmpL (opp (red l)) (red l) < 0
  · obtain rfl : P = opp (red l) := by rw [HPl.out]; unfold plL mnL; rw [if_neg (by omega)]
    rw [decide_eq_true hc] at cL
    clear hn hc HPl
    go_wp2_with (fail)
    refine (cL _ H2.out H1.out).mono ?_
    rintro e w3 ⟨rfl, hw3⟩
    have H2 := Lib.hid (H2.out.later hw3)
    have HB3 := Lib.hid (HB2.out.trans (hw3.mono HB2.out.size))
    clear hw3
    go_wp2
    go_ret
    exact ⟨_, _, rfl, H2.out, HB3.out⟩
  · obtain rfl : P = red l := by rw [HPl.out]; unfold plL mnL; rw [if_pos (by omega)]
    rw [decide_eq_false hc] at cL
    clear hn hc HPl
    go_wp2_with (fail)
    refine (cL _ H2.out H1.out).mono ?_
    rintro e w3 ⟨rfl, hw3⟩
    have H1 := Lib.hid (H1.out.later hw3)
    have HB3 := Lib.hid (HB2.out.trans (hw3.mono HB2.out.size))
    clear hw3
    go_wp2
    go_ret
    exact ⟨_, _, rfl, H1.out, HB3.out⟩
set_option maxHeartbeats 1600000 in
theorem refPlainPath_ok (ao : Option Addr) (cap : Nat) (l : List Int) (w : World) (h : LiesOI w ao l) (hp : pe l = 0) : Calls Try.prog 12 #[.slice ao l.length cap] w fun e w' => ∃ a c, e = .returned (.tuple #[.slice a (plL l).length c, .int .i64 0]) ∧ LiesOI w' a (plL l) ∧ Below w.heap.size w w' := by
  have hx := pe_ok hp
  have cI := fun W h => isPath_any ao cap l 0 W h (.inr (.inr ⟨hx.1, hx.2, rfl⟩)) (by omega)
  have cS := fun W h => shape_any ao cap l W h hx.2 (by omega)
  have H := Lib.hid h
  clear h hp hx
  go_enter Try.func12, Try.ntmps12
  go_wp2_with (fail)
  refine (cI _ (H.out.later (by repeat (first | (with_reducible exact Below.refl _ _) | (with_reducible refine Below.setCell ?_ ?_ _) | (with_reducible refine Below.drew ?_) | (with_reducible refine Below.alloc ?_ ?_ _) | omega | (simp <;> omega))))).mono ?_
  rintro e w1 ⟨rfl, hw1⟩
  have HB1 : Hid (Below w.heap.size w w1) := Lib.hid (by repeat (first | (with_reducible exact Below.refl _ _) | (with_reducible refine Below.setCell ?_ ?_ _) | (with_reducible refine Below.drew ?_) | (with_reducible refine Below.alloc ?_ ?_ _) | (with_reducible refine Below.trans ?_ (Below.mono hw1 ?_)) | (with_reducible exact hw1.size) | omega | (simp <;> omega) | (simp <;> (have s := hw1.size; omega)) | (have s0 := hw1.size; (try simp at s0); (try simp); omega)))
  clear hw1
  go_wp2_with (fail)
  refine (cS _ (H.out.later HB1.out)).mono ?_
  rintro e w2 ⟨a, c, rfl, hl, hw2⟩
  have HL := Lib.hid hl
  have HB2 := Lib.hid (HB1.out.trans (hw2.mono HB1.out.size))
  clear hl hw2
  go_wp2
  go_ret2
  exact ⟨a, c, rfl, HL.out, HB2.out⟩
set_option maxHeartbeats 1600000 in
theorem refPlainPath_bad (ao : Option Addr) (cap : Nat) (l : List Int) (w : World) (h : LiesOI w ao l) (h0 : pe l ≠ 0) (hl : l.length ≤ 1000000) : Calls Try.prog 12 #[.slice ao l.length cap] w fun e w' => e = .returned (.tuple #[.slice none 0 0, .int .i64 (pe l)]) ∧ Below w.heap.size w w' := by
  have cI := fun W h => isPath_any ao cap l (pe l) W h (pe_R l) hl
  generalize pe l = r at *
  have q1 : (r != 0) = true := by simpa using h0
  have H := Lib.hid h
  clear h h0
  go_enter Try.func12, Try.ntmps12
  go_wp2_with (fail)
  refine (cI _ (H.out.later (by repeat (first | (with_reducible exact Below.refl _ _) | (with_reducible refine Below.setCell ?_ ?_ _) | (with_reducible refine Below.drew ?_) | (with_reducible refine Below.alloc ?_ ?_ _) | omega | (simp <;> omega))))).mono ?_
  rintro e w1 ⟨rfl, hw1⟩
  go_wp2
  go_ret2
  exact ⟨rfl, by repeat (first | (with_reducible exact Below.refl _ _) | (with_reducible refine Below.setCell ?_ ?_ _) | (with_reducible refine Below.drew ?_) | (with_reducible refine Below.alloc ?_ ?_ _) | (with_reducible refine Below.trans ?_ (Below.mono hw1 ?_)) | (with_reducible exact hw1.size) | omega | (simp <;> omega) | (simp <;> (have s := hw1.size; omega)) | (have s0 := hw1.size; (try simp at s0); (try simp); omega))⟩

set_option maxHeartbeats 3200000 in
theorem refVT_any (ao : Option Addr) (cap : Nat) (l : List E) (w : World) (h : Trs w ao l) (hl : l.length ≤ 1000000) (hp : ∀ e ∈ l, e.p.length ≤ 1000000) : Calls Try.prog 20 #[.slice ao l.length cap] w fun e w' => e = .returned (.int .i64 (vT (tm l))) ∧ Below w.heap.size w w' := by
  have H := Lib.hid h
  have HP := Lib.hid hp
  clear h hp
  by_cases h40 : 40 < l.length
  · have hv : vT (tm l) = 3 := by unfold vT; rw [tm_len, if_pos h40]
    have h41 : (40 : Int) < (l.length : Int) := by omega
    rw [hv]
    clear hv h40
    go_enter Try.func20, Try.ntmps20
    go_wp2
    go_ret
    exact ⟨rfl, by repeat (first | (with_reducible exact Below.refl _ _) | (with_reducible refine Below.setCell ?_ ?_ _) | (with_reducible refine Below.drew ?_) | (with_reducible refine Below.alloc ?_ ?_ _) | omega | (simp <;> omega))⟩
  · have hv : vT (tm l) = tes (tm l) := by unfold vT; rw [tm_len, if_neg h40]
    rw [hv]
    obtain ⟨r, hR⟩ : ∃ r, r = tes (tm l) := ⟨_, rfl⟩
    rw [← hR]
    have HR0 : Hid (r = tes ((tm l).drop 0)) := Lib.hid (by simpa using hR)
    have h41 : ¬ (40 : Int) < (l.length : Int) := by omega
    clear hv hR h40
    go_enter Try.func20, Try.ntmps20
    go_wp2
    go_loopw [3, 4] (fun q _ wr => ∃ k : Nat, k ≤ l.length ∧ q = .int .i64 k ∧ Hid (r = tes ((tm l).drop k)) ∧ Below w.heap.size w wr) (fun q _ _ => l.length - (intOf q).toNat)
    case atStart => exact ⟨0, by omega, rfl, HR0, Below.refl _ _⟩
    case round =>
      obtain ⟨k, hk, rfl, HR, hb⟩ := hrel
      clear HR0
      by_cases hlt : k < l.length
      · have i1 : (k : Int) < (l.length : Int) := by omega
        obtain ⟨b, off, rfl, x0, x1, hpl⟩ := (H.out.later hb).at_ hlt
        have hd := tes_drop (tm l) k (by rw [tm_len]; exact hlt)
        have hg : (tm l)[k]'(by rw [tm_len]; exact hlt) = (l[k].c, l[k].p) := by simp [tm]
        rw [hg] at hd
        have hpe := HP.out _ (List.getElem_mem hlt)
        clear hg
        generalize l[k] = x at *
        obtain ⟨c, p, pa, pk⟩ := x
        simp only at *
        have HD := Lib.hid hd
        have HL := Lib.hid hpl
        clear hd hpl
        by_cases hc : okC c
        · have cC := fun W => within3_any c (-1000) 1000 W true (.inl ⟨hc.1, hc.2, rfl⟩)
          have cI := fun W h => isPath_any pa pk p (pe p) W h (pe_R p) hpe
          by_cases hp8 : 8 < p.length
          · have j8 : (8 : Int) < (p.length : Int) := by omega
            have HN : r = 3 := by rw [HR.out, HD.out]; unfold te pe; rw [if_pos hc, if_pos hp8, if_neg (by omega)]
            subst HN
            clear hc HD HR cI hp8
            go_wp2_with ((with_reducible refine (cC _).mono ?_); clear cC; rintro e w1 ⟨rfl, rfl⟩)
            go_ret
            exact ⟨rfl, by repeat (first | (with_reducible exact Below.refl _ _) | (with_reducible refine Below.setCell ?_ ?_ _) | (with_reducible refine Below.drew ?_) | (with_reducible refine Below.alloc ?_ ?_ _) | (with_reducible refine Below.trans ?_ (Below.mono hb ?_)) | (with_reducible exact hb.size) | omega | (simp <;> omega) | (simp <;> (have s := hb.size; omega)) | (have s0 := hb.size; (try simp at s0); (try simp); omega))⟩
          · have j8 : ¬ (8 : Int) < (p.length : Int) := by omega
            by_cases hpp : pe p = 0
            · have HN : Hid (r = tes ((tm l).drop (k + 1))) := Lib.hid (by rw [HR.out, HD.out]; unfold te; rw [if_pos hc, if_pos hpp])
              rw [hpp] at cI
              clear hc hpp HD HR hp8
              go_wp2_with (first
                | ((with_reducible refine (cC _).mono ?_); clear cC; rintro e w1 ⟨rfl, rfl⟩)
                | ((with_reducible refine (cI _ (HL.out.later (by repeat (first | (with_reducible exact Below.refl _ _) | (with_reducible refine Below.setCell ?_ ?_ _) | (with_reducible refine Below.drew ?_) | (with_reducible refine Below.alloc ?_ ?_ _) | omega | (simp <;> omega))))).mono ?_); clear cI; rintro e w2 ⟨rfl, hw2⟩))
              go_roundw
              case rel => exact ⟨k + 1, by omega, by go_num, HN, by repeat (first | (with_reducible exact Below.refl _ _) | (with_reducible refine Below.setCell ?_ ?_ _) | (with_reducible refine Below.drew ?_) | (with_reducible refine Below.alloc ?_ ?_ _) | (with_reducible refine Below.trans ?_ (Below.mono hw2 ?_)) | (with_reducible refine Below.trans ?_ (Below.mono hb ?_)) | (with_reducible exact hw2.size) | (with_reducible exact hb.size) | omega | (simp <;> omega) | (simp <;> (have s := hw2.size; omega)) | (simp <;> (have s := hb.size; omega)) | (have s0 := hw2.size; (try simp at s0); have s1 := hb.size; (try simp at s1); (try simp); omega))⟩
              case measure => simp [intOf]; omega
            · have HN : r = pe p := by rw [HR.out, HD.out]; unfold te; rw [if_pos hc, if_neg hpp]
              rw [← HN] at cI hpp
              have q1 : (r != 0) = true := by simpa using hpp
              clear hc hpp HD HR HN hp8
              go_wp2_with (first
                | ((with_reducible refine (cC _).mono ?_); clear cC; rintro e w1 ⟨rfl, rfl⟩)
                | ((with_reducible refine (cI _ (HL.out.later (by repeat (first | (with_reducible exact Below.refl _ _) | (with_reducible refine Below.setCell ?_ ?_ _) | (with_reducible refine Below.drew ?_) | (with_reducible refine Below.alloc ?_ ?_ _) | omega | (simp <;> omega))))).mono ?_); clear cI; rintro e w2 ⟨rfl, hw2⟩))
              go_ret
              exact ⟨rfl, by repeat (first | (with_reducible exact Below.refl _ _) | (with_reducible refine Below.setCell ?_ ?_ _) | (with_reducible refine Below.drew ?_) | (with_reducible refine Below.alloc ?_ ?_ _) | (with_reducible refine Below.trans ?_ (Below.mono hw2 ?_)) | (with_reducible refine Below.trans ?_ (Below.mono hb ?_)) | (with_reducible exact hw2.size) | (with_reducible exact hb.size) | omega | (simp <;> omega) | (simp <;> (have s := hw2.size; omega)) | (simp <;> (have s := hb.size; omega)) | (have s0 := hw2.size; (try simp at s0); have s1 := hb.size; (try simp at s1); (try simp); omega))⟩
        · have cC := fun W => within3_any c (-1000) 1000 W false (.inr ⟨hc, rfl⟩)
          have HN : r = 3 := by rw [HR.out, HD.out]; unfold te; rw [if_neg hc, if_neg (by omega)]
          subst HN
          clear hc HD HR
          go_wp2_with ((with_reducible refine (cC _).mono ?_); clear cC; rintro e w1 ⟨rfl, rfl⟩)
          go_ret
          exact ⟨rfl, by repeat (first | (with_reducible exact Below.refl _ _) | (with_reducible refine Below.setCell ?_ ?_ _) | (with_reducible refine Below.drew ?_) | (with_reducible refine Below.alloc ?_ ?_ _) | (with_reducible refine Below.trans ?_ (Below.mono hb ?_)) | (with_reducible exact hb.size) | omega | (simp <;> omega) | (simp <;> (have s := hb.size; omega)) | (have s0 := hb.size; (try simp at s0); (try simp); omega))⟩
      · obtain rfl : l.length = k := by omega
        have HN : r = 0 := by rw [HR.out, List.drop_of_length_le (by rw [tm_len]; omega)]; rfl
        subst HN
        clear HR
        go_wp2
        go_ret
        exact ⟨rfl, by repeat (first | (with_reducible exact Below.refl _ _) | (with_reducible refine Below.setCell ?_ ?_ _) | (with_reducible refine Below.drew ?_) | (with_reducible refine Below.alloc ?_ ?_ _) | (with_reducible refine Below.trans ?_ (Below.mono hb ?_)) | (with_reducible exact hb.size) | omega | (simp <;> omega) | (simp <;> (have s := hb.size; omega)) | (have s0 := hb.size; (try simp at s0); (try simp); omega))⟩
/-- the error of two sums -/
def bothR (l m : List E) : Int := if vT (tm l) = 0 then vT (tm m) else vT (tm l)
set_option maxHeartbeats 1600000 in
theorem both_any (ao bo : Option Addr) (ca cb : Nat) (l m : List E) (w : World) (h : Trs w ao l) (h2 : Trs w bo m) (hl : l.length ≤ 1000000) (hp : ∀ e ∈ l, e.p.length ≤ 1000000) (hm : m.length ≤ 1000000) (hq : ∀ e ∈ m, e.p.length ≤ 1000000) : Calls Try.prog 50 #[.slice ao l.length ca, .slice bo m.length cb] w fun e w' => e = .returned (.int .i64 (bothR l m)) ∧ Below w.heap.size w w' := by
  have c1 := fun W h => refVT_any ao ca l W h hl hp
  have c2 := fun W h => refVT_any bo cb m W h hm hq
  have H := Lib.hid h
  have H2 := Lib.hid h2
  clear h h2
  unfold bothR
  by_cases h0 : vT (tm l) = 0
  · rw [if_pos h0]
    rw [h0] at c1
    clear h0
    generalize vT (tm m) = r at *
    go_enter Try.func50, Try.ntmps50
    go_wp2_with (fail)
    refine (c1 _ (H.out.later (by repeat (first | (with_reducible exact Below.refl _ _) | (with_reducible refine Below.setCell ?_ ?_ _) | (with_reducible refine Below.drew ?_) | (with_reducible refine Below.alloc ?_ ?_ _) | omega | (simp <;> omega))))).mono ?_
    rintro e w1 ⟨rfl, hw1⟩
    have HB1 : Hid (Below w.heap.size w w1) := Lib.hid (by repeat (first | (with_reducible exact Below.refl _ _) | (with_reducible refine Below.setCell ?_ ?_ _) | (with_reducible refine Below.drew ?_) | (with_reducible refine Below.alloc ?_ ?_ _) | (with_reducible refine Below.trans ?_ (Below.mono hw1 ?_)) | (with_reducible exact hw1.size) | omega | (simp <;> omega) | (simp <;> (have s := hw1.size; omega)) | (have s0 := hw1.size; (try simp at s0); (try simp); omega)))
    clear hw1
    go_wp2_with (fail)
    refine (c2 _ (H2.out.later HB1.out)).mono ?_
    rintro e w2 ⟨rfl, hw2⟩
    have HB2 := Lib.hid (HB1.out.trans (hw2.mono HB1.out.size))
    clear hw2
    go_wp2
    go_ret
    exact ⟨rfl, HB2.out⟩
  · rw [if_neg h0]
    generalize vT (tm l) = r at *
    have q1 : (r != 0) = true := by simpa using h0
    clear h0
    go_enter Try.func50, Try.ntmps50
    go_wp2_with (fail)
    refine (c1 _ (H.out.later (by repeat (first | (with_reducible exact Below.refl _ _) | (with_reducible refine Below.setCell ?_ ?_ _) | (with_reducible refine Below.drew ?_) | (with_reducible refine Below.alloc ?_ ?_ _) | omega | (simp <;> omega))))).mono ?_
    rintro e w1 ⟨rfl, hw1⟩
    go_wp2
    go_ret
    exact ⟨rfl, by repeat (first | (with_reducible exact Below.refl _ _) | (with_reducible refine Below.setCell ?_ ?_ _) | (with_reducible refine Below.drew ?_) | (with_reducible refine Below.alloc ?_ ?_ _) | (with_reducible refine Below.trans ?_ (Below.mono hw1 ?_)) | (with_reducible exact hw1.size) | omega | (simp <;> omega) | (simp <;> (have s := hw1.size; omega)) | (have s0 := hw1.size; (try simp at s0); (try simp); omega))⟩
end Go.Proofs.Ytjidbajcnomceaa
