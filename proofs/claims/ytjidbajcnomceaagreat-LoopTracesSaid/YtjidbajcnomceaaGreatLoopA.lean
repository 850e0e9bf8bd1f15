/- Paths that are compared, and the plain one of a path and the path from its end, as package loop makes them.
Conditions: those written at each theorem. -/
import Derived.Test.YtjidbajcnomceaaGreatLoopM
import Derived.Test.YtjidbajcnomceaaGreatPathA
import Derived.Test.YtjidbajcnomceaaGreatInts
import Derived.Test.YtjidbajcnomceaaGreatLBox
import Derived.RangeFuncRecord
namespace Go.Proofs.YtjidbajcnomceaaGreat
set_option linter.unusedVariables false
set_option linter.unusedSimpArgs false
set_option maxRecDepth 1000000
open Go.RowKit
open Um Tm Lm

theorem isNaN_any (x : Int) (w : World) : Calls Tryz.prog 156 #[.int .i64 x] w fun e w' => e = .returned (.bool false) ∧ Below w.heap.size w w' := by
  go_enter Tryz.func156, Tryz.ntmps156
  go_wp2
  go_ret
  exact ⟨by simp, by repeat (first | (with_reducible exact Below.refl _ _) | (with_reducible refine Below.setCell ?_ ?_ _) | (with_reducible refine Below.drew ?_) | (with_reducible refine Below.alloc ?_ ?_ _) | omega | (simp <;> omega))⟩
theorem cmpInt_any (x y : Int) (w : World) : Calls Tryz.prog 136 #[.int .i64 x, .int .i64 y] w fun e w' => e = .returned (.int .i64 (cmpI x y)) ∧ Below w.heap.size w w' := by
  have c1 := fun (x : Int) (W : World) => isNaN_any x W
  unfold cmpI
  by_cases h1 : x < y
  · rw [if_pos h1]
    go_enter Tryz.func136, Tryz.ntmps136
    go_wp2_with (first | ((with_reducible refine (c1 x _).mono ?_); rintro e w1 ⟨rfl, hw1⟩) | ((with_reducible refine (c1 y _).mono ?_); rintro e w2 ⟨rfl, hw2⟩))
    go_ret
    exact ⟨rfl, by repeat (first | (with_reducible exact Below.refl _ _) | (with_reducible refine Below.setCell ?_ ?_ _) | (with_reducible refine Below.drew ?_) | (with_reducible refine Below.alloc ?_ ?_ _) | (with_reducible refine Below.trans ?_ (Below.mono hw2 ?_)) | (with_reducible refine Below.trans ?_ (Below.mono hw1 ?_)) | (with_reducible exact hw2.size) | (with_reducible exact hw1.size) | omega | (simp <;> omega) | (simp <;> (have s := hw2.size; omega)) | (simp <;> (have s := hw1.size; omega)) | (have s0 := hw2.size; (try simp at s0); have s1 := hw1.size; (try simp at s1); (try simp); omega))⟩
  · rw [if_neg h1]
    by_cases h2 : y < x
    · rw [if_pos h2]
      go_enter Tryz.func136, Tryz.ntmps136
      go_wp2_with (first | ((with_reducible refine (c1 x _).mono ?_); rintro e w1 ⟨rfl, hw1⟩) | ((with_reducible refine (c1 y _).mono ?_); rintro e w2 ⟨rfl, hw2⟩))
      go_ret
      exact ⟨rfl, by repeat (first | (with_reducible exact Below.refl _ _) | (with_reducible refine Below.setCell ?_ ?_ _) | (with_reducible refine Below.drew ?_) | (with_reducible refine Below.alloc ?_ ?_ _) | (with_reducible refine Below.trans ?_ (Below.mono hw2 ?_)) | (with_reducible refine Below.trans ?_ (Below.mono hw1 ?_)) | (with_reducible exact hw2.size) | (with_reducible exact hw1.size) | omega | (simp <;> omega) | (simp <;> (have s := hw2.size; omega)) | (simp <;> (have s := hw1.size; omega)) | (have s0 := hw2.size; (try simp at s0); have s1 := hw1.size; (try simp at s1); (try simp); omega))⟩
    · rw [if_neg h2]
      go_enter Tryz.func136, Tryz.ntmps136
      go_wp2_with (first | ((with_reducible refine (c1 x _).mono ?_); clear c1; have c1 := fun (W : World) => isNaN_any y W; rintro e w1 ⟨rfl, hw1⟩) | ((with_reducible refine (c1 _).mono ?_); rintro e w2 ⟨rfl, hw2⟩))
      go_ret
      exact ⟨rfl, by repeat (first | (with_reducible exact Below.refl _ _) | (with_reducible refine Below.setCell ?_ ?_ _) | (with_reducible refine Below.drew ?_) | (with_reducible refine Below.alloc ?_ ?_ _) | (with_reducible refine Below.trans ?_ (Below.mono hw2 ?_)) | (with_reducible refine Below.trans ?_ (Below.mono hw1 ?_)) | (with_reducible exact hw2.size) | (with_reducible exact hw1.size) | omega | (simp <;> omega) | (simp <;> (have s := hw2.size; omega)) | (simp <;> (have s := hw1.size; omega)) | (have s0 := hw2.size; (try simp at s0); have s1 := hw1.size; (try simp at s1); (try simp); omega))⟩

theorem cmpL_drop (l m : List Int) (k : Nat) (h1 : k < l.length) (h2 : k < m.length) : cmpL (l.drop k) (m.drop k) = if cmpI l[k] m[k] = 0 then cmpL (l.drop (k + 1)) (m.drop (k + 1)) else cmpI l[k] m[k] := by
  rw [List.drop_eq_getElem_cons h1, List.drop_eq_getElem_cons h2]
  rfl
theorem cmpL_over (l m : List Int) (k : Nat) (h1 : k < l.length) (h2 : m.length ≤ k) : cmpL (l.drop k) (m.drop k) = 1 := by
  rw [List.drop_eq_getElem_cons h1, List.drop_eq_nil_of_le h2]
  rfl
theorem cmpL_end (l m : List Int) (k : Nat) (h1 : l.length ≤ k) : cmpL (l.drop k) (m.drop k) = if k < m.length then -1 else 0 := by
  rw [List.drop_eq_nil_of_le h1]
  split
  · rename_i h
    rw [List.drop_eq_getElem_cons h]
    rfl
  · rename_i h
    rw [List.drop_eq_nil_of_le (by omega)]
    rfl

set_option maxHeartbeats 1600000 in
theorem compare_any (a1 a2 : Option Addr) (c1 c2 : Nat) (l m : List Int) (w : World) (h1 : LiesOI w a1 l) (h2 : LiesOI w a2 m) (n1 : l.length ≤ 1000000) (n2 : m.length ≤ 1000000) : Calls Tryz.prog 115 #[.slice a1 l.length c1, .slice a2 m.length c2] w fun e w' => e = .returned (.int .i64 (cmpL l m)) ∧ Below w.heap.size w w' := by
  have cC := cmpInt_any
  have H1 := Lib.hid h1
  have H2 := Lib.hid h2
  have hr := cmpL_rng l m
  obtain ⟨r, hR⟩ : ∃ r, r = cmpL l m := ⟨_, rfl⟩
  rw [← hR] at hr ⊢
  have HR0 : Hid (r = cmpL (l.drop 0) (m.drop 0)) := Lib.hid (by simpa using hR)
  clear h1 h2 hR hr
  go_enter Tryz.func115, Tryz.ntmps115
  go_wp2
  go_loopw [11] (fun q wr => ∃ k : Nat, k ≤ l.length ∧ k ≤ m.length ∧ q = .int .i64 k ∧ Hid (r = cmpL (l.drop k) (m.drop k)) ∧ Below w.heap.size w wr) (fun q _ => l.length - (intOf q).toNat)
  case atStart => exact ⟨0, by omega, by omega, rfl, HR0, Below.refl _ _⟩
  case round =>
    obtain ⟨k, k1, k2, rfl, HR, hb⟩ := hrel
    clear HR0
    by_cases hlt : k < l.length
    · have i1 : (k : Int) < (l.length : Int) := by omega
      have hx : l[k]? = some l[k] := List.getElem?_eq_getElem hlt
      obtain ⟨b1, o1, rfl, hl1⟩ : ∃ b o, a1 = some ⟨b, o, none⟩ ∧ LiesI w b o l := by
        rcases H1.out with h | h
        · subst h; simp at hlt
        · exact h
      have x0 := hl1.later hb k _ hx
      by_cases hlt2 : k < m.length
      · have i2 : ¬ (m.length : Int) ≤ (k : Int) := by omega
        have i3 : (k : Int) < (m.length : Int) := by omega
        have hy : m[k]? = some m[k] := List.getElem?_eq_getElem hlt2
        obtain ⟨b2, o2, rfl, hl2⟩ : ∃ b o, a2 = some ⟨b, o, none⟩ ∧ LiesI w b o m := by
          rcases H2.out with h | h
          · subst h; simp at hlt2
          · exact h
        have y0 := hl2.later hb k _ hy
        have hd := cmpL_drop l m k hlt hlt2
        generalize l[k] = x at *
        generalize m[k] = y at *
        have HD := Lib.hid hd
        clear hl1 hl2 hd hx hy
        by_cases hc : cmpI x y = 0
        · have HC := Lib.hid hc
          have cC' := fun W : World => cC x y W
          rw [hc] at cC'
          clear hc cC
          go_wp2_with ((with_reducible refine (cC' _).mono ?_); rintro e w1 ⟨rfl, hw1⟩)
          go_roundw
          case rel => exact ⟨k + 1, by omega, by omega, by go_num, Lib.hid (by rw [HR.out, HD.out, if_pos HC.out]), by repeat (first | (with_reducible exact Below.refl _ _) | (with_reducible refine Below.setCell ?_ ?_ _) | (with_reducible refine Below.drew ?_) | (with_reducible refine Below.alloc ?_ ?_ _) | (with_reducible refine Below.trans ?_ (Below.mono hw1 ?_)) | (with_reducible refine Below.trans ?_ (Below.mono hb ?_)) | (with_reducible exact hw1.size) | (with_reducible exact hb.size) | omega | (simp <;> omega) | (simp <;> (have s := hw1.size; omega)) | (simp <;> (have s := hb.size; omega)) | (have s0 := hw1.size; (try simp at s0); have s1 := hb.size; (try simp at s1); (try simp); omega))⟩
          case measure => simp [intOf]; omega
        · have hrng := cmpI_rng x y
          have e2 : r = cmpI x y := by rw [HR.out, HD.out, if_neg hc]
          have cC' := fun W : World => cC x y W
          rw [← e2] at cC' hrng hc
          have q1 : (r != 0) = true := by simpa using hc
          clear e2 hrng hc cC
          go_wp2_with ((with_reducible refine (cC' _).mono ?_); rintro e w1 ⟨rfl, hw1⟩)
          go_ret
          exact ⟨rfl, by repeat (first | (with_reducible exact Below.refl _ _) | (with_reducible refine Below.setCell ?_ ?_ _) | (with_reducible refine Below.drew ?_) | (with_reducible refine Below.alloc ?_ ?_ _) | (with_reducible refine Below.trans ?_ (Below.mono hw1 ?_)) | (with_reducible refine Below.trans ?_ (Below.mono hb ?_)) | (with_reducible exact hw1.size) | (with_reducible exact hb.size) | omega | (simp <;> omega) | (simp <;> (have s := hw1.size; omega)) | (simp <;> (have s := hb.size; omega)) | (have s0 := hw1.size; (try simp at s0); have s1 := hb.size; (try simp at s1); (try simp); omega))⟩
      · have i2 : (m.length : Int) ≤ (k : Int) := by omega
        have e2 : r = 1 := by rw [HR.out]; exact cmpL_over l m k hlt (by omega)
        subst e2
        clear hl1 hx
        go_wp2
        go_ret
        exact ⟨rfl, hb⟩
    · obtain rfl : k = l.length := by omega
      by_cases hlt2 : l.length < m.length
      · have e2 : r = -1 := by rw [HR.out, cmpL_end l m _ (Nat.le_refl _), if_pos hlt2]
        subst e2
        go_wp2
        go_ret
        exact ⟨rfl, hb⟩
      · have e2 : r = 0 := by rw [HR.out, cmpL_end l m _ (Nat.le_refl _), if_neg hlt2]
        subst e2
        go_wp2
        go_ret
        exact ⟨rfl, hb⟩

theorem first_any (B : Nat) (a1 a2 : Option Addr) (c1 c2 : Nat) (l m : List Int) (w : World) (h1 : LiesNI w B a1 l) (h2 : LiesNI w B a2 m) (p1 : l.length ≤ c1) (p2 : m.length ≤ c2) (n1 : l.length ≤ 1000000) (n2 : m.length ≤ 1000000) : Calls Tryz.prog 133 #[.slice a1 l.length c1, .slice a2 m.length c2] w fun e w' => ∃ ao c, e = .returned (.slice ao (mnL l m).length c) ∧ LiesNI w' B ao (mnL l m) ∧ (mnL l m).length ≤ c ∧ Below w.heap.size w w' := by
  have cC := fun W (h1 : LiesOI W a1 l) (h2 : LiesOI W a2 m) => compare_any a1 a2 c1 c2 l m W h1 h2 n1 n2
  have H1 := Lib.hid h1
  have H2 := Lib.hid h2
  have hr := cmpL_rng l m
  unfold mnL
  by_cases hc : cmpL l m ≤ 0
  · simp only [if_pos hc]
    generalize cmpL l m = r at *
    clear h1 h2
    go_enter Tryz.func133, Tryz.ntmps133
    go_wp2_with ((with_reducible refine (cC _ H1.out.o H2.out.o).mono ?_); rintro e w1 ⟨rfl, hw1⟩)
    go_ret
    exact ⟨a1, c1, rfl, H1.out.later hw1, p1, by repeat (first | (with_reducible exact Below.refl _ _) | (with_reducible refine Below.setCell ?_ ?_ _) | (with_reducible refine Below.drew ?_) | (with_reducible refine Below.alloc ?_ ?_ _) | (with_reducible refine Below.trans ?_ (Below.mono hw1 ?_)) | (with_reducible exact hw1.size) | omega | (simp <;> omega) | (simp <;> (have s := hw1.size; omega)) | (have s0 := hw1.size; (try simp at s0); (try simp); omega))⟩
  · simp only [if_neg hc]
    have hc' : 0 < cmpL l m := by omega
    generalize cmpL l m = r at *
    clear h1 h2 hc
    go_enter Tryz.func133, Tryz.ntmps133
    go_wp2_with ((with_reducible refine (cC _ H1.out.o H2.out.o).mono ?_); rintro e w1 ⟨rfl, hw1⟩)
    go_ret
    exact ⟨a2, c2, rfl, H2.out.later hw1, p2, by repeat (first | (with_reducible exact Below.refl _ _) | (with_reducible refine Below.setCell ?_ ?_ _) | (with_reducible refine Below.drew ?_) | (with_reducible refine Below.alloc ?_ ?_ _) | (with_reducible refine Below.trans ?_ (Below.mono hw1 ?_)) | (with_reducible exact hw1.size) | omega | (simp <;> omega) | (simp <;> (have s := hw1.size; omega)) | (have s0 := hw1.size; (try simp at s0); (try simp); omega))⟩

theorem plainW_any (B : Nat) (a1 a2 : Option Addr) (c1 c2 : Nat) (l m : List Int) (w : World) (h1 : LiesNI w B a1 l) (h2 : LiesNI w B a2 m) (p1 : l.length ≤ c1) (p2 : m.length ≤ c2) (n1 : l.length ≤ 1000000) (n2 : m.length ≤ 1000000) : Calls Tryz.prog 112 #[.agg #[.slice a1 l.length c1, .slice a2 m.length c2]] w fun e w' => ∃ ao c, e = .returned (.slice ao (mnL l m).length c) ∧ LiesNI w' B ao (mnL l m) ∧ (mnL l m).length ≤ c ∧ Below w.heap.size w w' := by
  have cC := fun W (h1 : LiesNI W B a1 l) (h2 : LiesNI W B a2 m) => first_any B a1 a2 c1 c2 l m W h1 h2 p1 p2 n1 n2
  have H1 := Lib.hid h1
  have H2 := Lib.hid h2
  clear h1 h2
  go_enter Tryz.func112, Tryz.ntmps112
  go_wp2_with ((with_reducible refine (cC _ (H1.out.later (by repeat (first | (with_reducible exact Below.refl _ _) | (with_reducible refine Below.setCell ?_ ?_ _) | (with_reducible refine Below.drew ?_) | (with_reducible refine Below.alloc ?_ ?_ _) | omega | (simp <;> omega)))) (H2.out.later (by repeat (first | (with_reducible exact Below.refl _ _) | (with_reducible refine Below.setCell ?_ ?_ _) | (with_reducible refine Below.drew ?_) | (with_reducible refine Below.alloc ?_ ?_ _) | omega | (simp <;> omega))))).mono ?_); rintro e w1 ⟨ao, c, rfl, hl, n3, hw1⟩; have HL := Lib.hid hl; clear hl)
  go_ret
  exact ⟨ao, c, rfl, HL.out, n3, by repeat (first | (with_reducible exact Below.refl _ _) | (with_reducible refine Below.setCell ?_ ?_ _) | (with_reducible refine Below.drew ?_) | (with_reducible refine Below.alloc ?_ ?_ _) | (with_reducible refine Below.trans ?_ (Below.mono hw1 ?_)) | (with_reducible exact hw1.size) | omega | (simp <;> omega) | (simp <;> (have s := hw1.size; omega)) | (have s0 := hw1.size; (try simp at s0); (try simp); omega))⟩

/-- a list of ints lies where it lay when a block of other things is written -/
theorem LiesOI.other {W X : World} {ao : Option Addr} {l : List Int} {B : Nat} (h : LiesOI W ao l) (hg : W.grownBy X (some B)) (hne : ∀ (o : Nat) (x : Int), W.cell? ⟨B, o, none⟩ ≠ some (.int .i64 x)) : LiesOI X ao l := by
  rcases h with h | ⟨b, off, rfl, h⟩
  · exact .inl h
  · by_cases hl : l = []
    · exact .inl hl
    · have hpos : 0 < l.length := List.length_pos_iff.2 hl
      have hb : b ≠ B := by
        rintro rfl
        exact hne _ _ (h 0 _ (List.getElem?_eq_getElem hpos))
      exact .inr ⟨b, off, rfl, fun i x hx => hg.cell (h i x hx) (by simp; exact hb)⟩
theorem LiesNI.other {W X : World} {C : Nat} {ao : Option Addr} {l : List Int} {B : Nat} (h : LiesNI W C ao l) (hg : W.grownBy X (some B)) (hne : ∀ (o : Nat) (x : Int), W.cell? ⟨B, o, none⟩ ≠ some (.int .i64 x)) : LiesNI X C ao l := by
  rcases h with h | ⟨b, off, rfl, hC, hf, h⟩
  · exact .inl h
  · by_cases hl : l = []
    · exact .inl hl
    · have hpos : 0 < l.length := List.length_pos_iff.2 hl
      have hb : b ≠ B := by
        rintro rfl
        exact hne _ _ (h 0 _ (List.getElem?_eq_getElem hpos))
      exact .inr ⟨b, off, rfl, hC, fun j => (World.frozen?_of_block (a := ⟨b, j, none⟩) (hg.block b (lies_block h hl) (by simp; exact hb))).trans (hf j), fun i x hx => hg.cell (h i x hx) (by simp; exact hb)⟩
theorem two_slices {W : World} {B : Nat} {T : TypeId} {a1 a2 : Option Addr} {n1 n2 c1 c2 : Nat} (h : W.heap[B]? = some (.cells #[.slice a1 n1 c1, .slice a2 n2 c2] T (0, 0))) (o : Nat) (x : Int) : W.cell? ⟨B, o, none⟩ ≠ some (.int .i64 x) := by
  intro e
  simp only [World.cell?, h] at e
  match o, e with
  | 0, e => simp at e
  | 1, e => simp at e
  | n + 2, e => simp at e
theorem turnedW_any (a1 a2 : Option Addr) (n1 n2 c1 c2 : Nat) (w : World) : Calls Tryz.prog 86 #[.agg #[.slice a1 n1 c1, .slice a2 n2 c2]] w fun e w' => e = .returned (.agg #[.slice a2 n2 c2, .slice a1 n1 c1]) ∧ Below w.heap.size w w' := by
  go_enter Tryz.func86, Tryz.ntmps86
  go_wp2
  refine bodyPost_ret (v := .agg #[.slice a2 n2 c2, .slice a1 n1 c1]) ?_ rfl ⟨rfl, ?_⟩
  · simp [results, Tryz.results86, go_sem]
  · repeat (first | (with_reducible exact Below.refl _ _) | (with_reducible refine Below.setCell ?_ ?_ _) | (with_reducible refine Below.drew ?_) | (with_reducible refine Below.alloc ?_ ?_ _) | omega | (simp <;> omega))

set_option maxHeartbeats 800000 in
theorem walkOf_ok (ao : Option Addr) (cap : Nat) (l : List Int) (w : World) (h : LiesOI w ao l) (hs : ∀ t ∈ l, IsStep t) (h8 : l.length ≤ 8) : Calls Tryz.prog 132 #[.slice ao l.length cap] w fun e w' => ∃ a1 a2 c1 c2, e = .returned (.tuple #[.agg #[.slice a1 (red l).length c1, .slice a2 (opp (red l)).length c2], .int .i64 0]) ∧ LiesNI w' w.heap.size a1 (red l) ∧ LiesNI w' w.heap.size a2 (opp (red l)) ∧ (red l).length ≤ c1 ∧ (opp (red l)).length ≤ c2 ∧ Below w.heap.size w w' := by
  have cR := fun W (h : LiesOI W ao l) => reduce_new ao cap l W h hs h8
  have cB := fun a c W (h : LiesOI W a (red l)) => back_new a c (red l) W h (red_steps hs) (Nat.le_trans (red_len l) h8)
  have H := Lib.hid h
  clear h
  go_enter Tryz.func132, Tryz.ntmps132
  go_wp2_with (first
    | ((with_reducible refine (cR _ (H.out.later (by repeat (first | (with_reducible exact Below.refl _ _) | (with_reducible refine Below.setCell ?_ ?_ _) | (with_reducible refine Below.drew ?_) | (with_reducible refine Below.alloc ?_ ?_ _) | omega | (simp <;> omega))))).mono ?_); clear cR; rintro e w1 ⟨a1, c1, rfl, hl1, n1, hw1⟩; have H1 := Lib.hid hl1; clear hl1; have hc1 := Tail.cells hw1; have zw10 := Nat.lt_of_lt_of_le (n := w.heap.size) (by simp <;> omega) hw1.size)
    | ((with_reducible refine (cB _ _ _ H1.out.o).mono ?_); clear cB; rintro e w2 ⟨a2, c2, rfl, hl2, n2, hw2⟩; have H2 := Lib.hid hl2; clear hl2; have hc2 := Tail.cells hw2; have y1 := Nat.lt_of_lt_of_le zw10 hw2.size))
  have hblk : w2.heap[w.heap.size]? = some (.cells #[.slice none 0 0, .slice none 0 0] 117 (0, 0)) := (hw2.block _ (by omega)).trans ((hw1.block _ (by simp)).trans (World.alloc_heap_new w _))
  have gX := grown_setCells (w.heap.size) [.slice a1 (red l).length c1, .slice a2 (opp (red l)).length c2] 0 w2
  have hB : Below w.heap.size w w2 := by repeat (first | (with_reducible exact Below.refl _ _) | (with_reducible refine Below.setCell ?_ ?_ _) | (with_reducible refine Below.drew ?_) | (with_reducible refine Below.alloc ?_ ?_ _) | (with_reducible refine Below.trans ?_ (Below.mono hw2 ?_)) | (with_reducible refine Below.trans ?_ (Below.mono hw1 ?_)) | (with_reducible exact hw2.size) | (with_reducible exact hw1.size) | omega | (simp <;> omega) | (simp <;> (have s := hw2.size; omega)) | (simp <;> (have s := hw1.size; omega)) | (have s0 := hw2.size; (try simp at s0); have s1 := hw1.size; (try simp at s1); (try simp); omega))
  refine bodyPost_ret (v := .tuple #[.agg #[.slice a1 (red l).length c1, .slice a2 (opp (red l)).length c2], .int .i64 0]) ?_ rfl ⟨a1, a2, c1, c2, rfl, ?_, ?_, n1, n2, ?_⟩
  · simp [results, Tryz.results132, go_sem, hc1, hc2, zw10, y1]
  · exact ((H1.out.le (by simp <;> omega)).later hw2).other gX (two_slices hblk)
  · exact (H2.out.le (by have := hw1.size; simp at this; omega)).other gX (two_slices hblk)
  · exact hB.grown gX hB.size (fun j e => by cases e; omega)

theorem walkOf_bad (ao : Option Addr) (cap : Nat) (l : List Int) (r : Int) (w : World) (h : LiesOI w ao l) (hr : pathR l r) (h0 : r ≠ 0) (hlen : l.length ≤ 1000000) : Calls Tryz.prog 132 #[.slice ao l.length cap] w fun e w' => e = .returned (.tuple #[.agg #[.slice none 0 0, .slice none 0 0], .int .i64 r]) ∧ Below w.heap.size w w' := by
  have cR := fun W (h : LiesOI W ao l) => reduce_bad ao cap l r W h hr h0 hlen
  have q1 : (r == 0) = false := by simpa using h0
  have q2 : (r != 0) = true := by simpa using h0
  have H := Lib.hid h
  clear h hr h0
  go_enter Tryz.func132, Tryz.ntmps132
  go_wp2_with ((with_reducible refine (cR _ (H.out.later (by repeat (first | (with_reducible exact Below.refl _ _) | (with_reducible refine Below.setCell ?_ ?_ _) | (with_reducible refine Below.drew ?_) | (with_reducible refine Below.alloc ?_ ?_ _) | omega | (simp <;> omega))))).mono ?_); clear cR; rintro e w1 ⟨rfl, hw1⟩; have hc1 := Tail.cells hw1; have zw10 := Nat.lt_of_lt_of_le (n := w.heap.size) (by simp <;> omega) hw1.size)
  refine bodyPost_ret (v := .tuple #[.agg #[.slice none 0 0, .slice none 0 0], .int .i64 r]) ?_ rfl ⟨rfl, ?_⟩
  · simp [results, Tryz.results132, go_sem, hc1, zw10]
  · repeat (first | (with_reducible exact Below.refl _ _) | (with_reducible refine Below.setCell ?_ ?_ _) | (with_reducible refine Below.drew ?_) | (with_reducible refine Below.alloc ?_ ?_ _) | (with_reducible refine Below.trans ?_ (Below.mono hw1 ?_)) | (with_reducible exact hw1.size) | omega | (simp <;> omega) | (simp <;> (have s := hw1.size; omega)) | (have s0 := hw1.size; (try simp at s0); (try simp); omega))

end Go.Proofs.YtjidbajcnomceaaGreat
