/- Two reduced paths are joined, as the program does.
Conditions: those written at each theorem. -/
import Derived.Test.YtjidbajcnomceaaGreatLoopB
import Derived.Test.YtjidbajcnomceaaGreatRegB
import Derived.Deep.RegionHeld3
namespace Go.Proofs.YtjidbajcnomceaaGreat
set_option linter.unusedVariables false
set_option linter.unusedSimpArgs false
set_option maxRecDepth 1000000
open Go.RowKit
open Um Tm Lm

theorem cell_keep {W W' : World} {p : Addr} {v : Value} (hb : Below W.heap.size W W') (h : W.cell? p = some v) : W'.cell? p = some v := by
  rw [hb.cell (World.block_lt_of_cell? W _ h)]
  exact h
theorem cell_far2 {W : World} {p1 p2 q : Addr} {a b v : Value} (h : W.cell? q = some v) (h1 : q.block ≠ p1.block) (h2 : q.block ≠ p2.block) : ((W.setCell p1 a).setCell p2 b).cell? q = some v :=
  (grown_setCell _ p2 b).cell ((grown_setCell W p1 a).cell h (by simpa using h1)) (by simpa using h2)
theorem lies_take {w : World} {a : Option Addr} {p : List Int} (h : LiesOI w a p) (m : Nat) : LiesOI w a (p.take m) := by
  rcases h with h | ⟨b, o, rfl, h⟩
  · exact .inl (by rw [h]; simp)
  · refine .inr ⟨b, o, rfl, fun i x hx => h i x ?_⟩
    rw [List.getElem?_take] at hx
    split at hx
    · exact hx
    · cases hx
theorem lies_drop1 {w : World} {b o : Nat} {q : List Int} (h : LiesOI w (some ⟨b, o, none⟩) q) (k : Nat) : LiesOI w (some ⟨b, o + k, none⟩) (q.drop k) := by
  rcases h with h | ⟨b', o', e, h⟩
  · exact .inl (by rw [h]; simp)
  · simp only [Option.some.injEq, Addr.mk.injEq, and_true] at e
    obtain ⟨rfl, rfl⟩ := e
    refine .inr ⟨b, o + k, rfl, fun i x hx => ?_⟩
    rw [List.getElem?_drop] at hx
    rw [Nat.add_assoc]
    exact h (k + i) x hx
theorem lies_drop {w : World} {a : Option Addr} {q : List Int} (h : LiesOI w a q) {k c : Nat} (hc : q.length ≤ c) : LiesOI w (if c = k then a else Option.map (fun x => x.add k) a) (q.drop k) := by
  split
  · rename_i e
    exact .inl (List.drop_eq_nil_of_le (by omega))
  · rcases h with h | ⟨b, o, rfl, h⟩
    · exact .inl (by rw [h]; simp)
    · have ea : Addr.add ⟨b, o, none⟩ k = ⟨b, o + k, none⟩ := by
        unfold Addr.add
        split
        · rename_i h; subst h; rfl
        · rfl
      refine .inr ⟨b, o + k, by rw [Option.map_some, ea], fun i x hx => ?_⟩
      rw [List.getElem?_drop] at hx
      rw [Nat.add_assoc]
      exact h (k + i) x hx

set_option maxHeartbeats 3200000 in
theorem joined_any (a1 a2 : Option Addr) (c1 c2 : Nat) (p q : List Int) (w : World) (h1 : LiesOI w a1 p) (h2 : LiesOI w a2 q) (s2 : ∀ t ∈ q, IsStep t) (p1 : p.length ≤ c1) (p2 : q.length ≤ c2) (n1 : p.length ≤ 1000) (n2 : q.length ≤ 1000) :
    Calls Tryz.prog 111 #[.slice a1 p.length c1, .slice a2 q.length c2] w fun e w' => ∃ ao c, e = .returned (.slice ao (jnL p q).length c) ∧ LiesNI w' w.heap.size ao (jnL p q) ∧ (jnL p q).length ≤ c ∧ Below w.heap.size w w' := by
  have H1 := Lib.hid h1
  have H2 := Lib.hid h2
  have S2 := Lib.hid s2
  clear h1 h2 s2
  have kc := @Tail.cell_re
  have kc1 : ∀ (W : World) (o : Obj) (d : Nat) (os : Array Obj) (a : Addr), a.block ≤ W.heap.size → (Sort.grow (redrawn (W.alloc o) d) os).cell? a = (W.alloc o).cell? a := fun W o d os a h => Tail.cell_re (W.alloc o) d os a (Nat.lt_of_le_of_lt h (by simp))
  obtain ⟨r, hR⟩ : ∃ r, r = jnL p q := ⟨_, rfl⟩
  rw [← hR]
  have HR0 : Hid (r = (jn (p.reverse.drop 0) (q.drop 0)).reverse) := Lib.hid (by simpa [jnL] using hR)
  clear hR
  go_enter Tryz.func111, Tryz.ntmps111
  go_wp2
  go_loopw [5] (fun i wr => ∃ k : Nat, k ≤ p.length ∧ k ≤ q.length ∧ i = .int .i64 k ∧ Hid (r = (jn (p.reverse.drop k) (q.drop k)).reverse) ∧ Below w.heap.size w wr) (fun i _ => p.length - (intOf i).toNat)
  case atStart => exact ⟨0, by omega, by omega, rfl, HR0, Below.refl _ _⟩
  case round =>
    obtain ⟨k, hk1, hk2, rfl, HR, hb⟩ := hrel
    clear HR0
    by_cases hlt : k < p.length ∧ k < q.length
    · obtain ⟨hp, hq⟩ := hlt
      obtain ⟨b1, o1, rfl, hl1⟩ : ∃ b o, a1 = some ⟨b, o, none⟩ ∧ LiesI w b o p := by
        rcases H1.out with h | h
        · subst h; simp at hp
        · exact h
      obtain ⟨b2, o2, rfl, hl2⟩ : ∃ b o, a2 = some ⟨b, o, none⟩ ∧ LiesI w b o q := by
        rcases H2.out with h | h
        · subst h; simp at hq
        · exact h
      have x0 := hl1.later hb (p.length - 1 - k) _ (List.getElem?_eq_getElem (by omega))
      have y0 := hl2.later hb k _ (List.getElem?_eq_getElem hq)
      have lb1 : b1 < wr.heap.size := World.block_lt_of_cell? wr _ x0
      have lb2 : b2 < wr.heap.size := World.block_lt_of_cell? wr _ y0
      have i1 : (k : Int) < (p.length : Int) := by omega
      have i2 : (k : Int) < (q.length : Int) := by omega
      have im : decide ((k : Int) < min (p.length : Int) (q.length : Int)) = true := by simp; omega
      have hn := jn_step hp hq
      have hm := fun h => @jn_stop p q k (.inr (.inr ⟨hp, hq, h⟩))
      have hst := S2.out _ (List.getElem_mem hq)
      obtain ⟨t0, t1, t2⟩ := hst
      generalize p[p.length - 1 - k] = x at *
      generalize q[k] = y at *
      have HN := Lib.hid hn
      have HM := Lib.hid hm
      clear hl1 hl2 hn hm
      by_cases hxy : x = -y
      · have HN2 : Hid (r = (jn (p.reverse.drop (k + 1)) (q.drop (k + 1))).reverse) := Lib.hid (by rw [HR.out, HN.out hxy])
        subst hxy
        clear HN HR HM
        go_wp2
        refine Tail.region_below (by kernel_rfl) (by kernel_rfl) ?_
        repeat (go_big_quiet_step (fail))
        refine wpQuiet_nil ?_
        intro w1 hw1
        go_wp2
        go_roundw
        case rel => exact ⟨k + 1, by omega, by omega, by go_num, HN2, by repeat (first | (with_reducible exact Below.refl _ _) | (with_reducible refine Below.setCell ?_ ?_ _) | (with_reducible refine Below.drew ?_) | (with_reducible refine Below.alloc ?_ ?_ _) | (with_reducible refine Below.trans ?_ (Below.mono hw1 ?_)) | (with_reducible refine Below.trans ?_ (Below.mono hb ?_)) | (with_reducible exact hw1.size) | (with_reducible exact hb.size) | omega | (simp <;> omega) | (simp <;> (have s := hw1.size; omega)) | (simp <;> (have s := hb.size; omega)) | (have s0 := hw1.size; (try simp at s0); have s1 := hb.size; (try simp at s1); (try simp); omega))⟩
        case measure => simp [intOf]; omega
      · have HN2 : Hid (r = p.take (p.length - k) ++ q.drop k) := Lib.hid (by rw [HR.out, HM.out hxy])
        have hxy' : (x == -y) = false := by simpa using hxy
        clear HN HR HM hxy
        go_wp2
        refine Tail.region_below (by kernel_rfl) (by kernel_rfl) ?_
        repeat (go_big_quiet_step (fail))
        refine wpQuiet_nil ?_
        intro w1 hw1
        go_wp2
        apply Made.region_one 9 (.cells #[.slice (some ⟨b1, o1, none⟩) (p.length - k) c1, .slice (some ⟨b2, o2 + k, none⟩) (q.length - k) (c2 - k)] 26) (fun g => .slice (some ⟨g, 0, none⟩) 2 2) (some 40) (by kernel_rfl) (by kernel_rfl) (by kernel_rfl)
        · intro B hB
          have kc := @Tail.cell_re
          simp only [List.take_succ_cons, List.take_zero]
          repeat (go_big_quiet_step (fail))
          exact wpQuiet_nil rfl
        · refine ⟨_, rfl, rfl, fun W => ⟨rfl, ?_⟩⟩
          simp [execOp, go_sem]
        · intro g W hg hW hx
          show wpList _ _ _ (List.drop 10 _) _ _
          simp only [List.drop_succ_cons, List.drop_zero]
          have g0 := Wide.cell_at hx 0 _ rfl
          have g1 := Wide.cell_at hx 1 _ rfl
          have e1 : (p.take (p.length - k)).length = p.length - k := by simp
          have e2 : (q.drop k).length = q.length - k := by simp
          rw [← e1] at g0
          rw [← e2] at g1
          have hb1 : Below w.heap.size w w1 := by repeat (first | (with_reducible exact Below.refl _ _) | (with_reducible refine Below.setCell ?_ ?_ _) | (with_reducible refine Below.drew ?_) | (with_reducible refine Below.alloc ?_ ?_ _) | (with_reducible refine Below.trans ?_ (Below.mono hw1 ?_)) | (with_reducible refine Below.trans ?_ (Below.mono hb ?_)) | (with_reducible exact hw1.size) | (with_reducible exact hb.size) | omega | (simp <;> omega) | (simp <;> (have s := hw1.size; omega)) | (simp <;> (have s := hb.size; omega)) | (have s0 := hw1.size; (try simp at s0); have s1 := hb.size; (try simp at s1); (try simp); omega))
          have hb2 : Below w.heap.size w W := by repeat (first | (with_reducible exact Below.refl _ _) | (with_reducible refine Below.setCell ?_ ?_ _) | (with_reducible refine Below.drew ?_) | (with_reducible refine Below.alloc ?_ ?_ _) | (with_reducible refine Below.trans ?_ (Below.mono hW ?_)) | (with_reducible refine Below.trans ?_ (Below.mono hb1 ?_)) | (with_reducible exact hW.size) | (with_reducible exact hb1.size) | omega | (simp <;> omega) | (simp <;> (have s := hW.size; omega)) | (simp <;> (have s := hb1.size; omega)) | (have s0 := hW.size; (try simp at s0); have s1 := hb1.size; (try simp at s1); (try simp); omega))
          have cC := concat2_any g _ _ c1 _ (p.take (p.length - k)) (q.drop k) W g0 g1 (lies_take (H1.out.later hb2) _) (lies_drop1 (H2.out.later hb2) k) (by omega) (by omega)
          rw [← HN2.out] at cC
          have HB := Lib.hid hb2
          clear g0 g1 e1 e2 hx hb1 hb2 hW hg
          go_wp2_with ((with_reducible refine cC.mono ?_); rintro e w3 ⟨ao, c, rfl, hL, hcap, hw3⟩)
          go_ret
          have hb2 := HB.out
          exact ⟨ao, c, rfl, hL.le hb2.size, hcap, by repeat (first | (with_reducible exact Below.refl _ _) | (with_reducible refine Below.setCell ?_ ?_ _) | (with_reducible refine Below.drew ?_) | (with_reducible refine Below.alloc ?_ ?_ _) | (with_reducible refine Below.trans ?_ (Below.mono hw3 ?_)) | (with_reducible refine Below.trans ?_ (Below.mono hb2 ?_)) | (with_reducible exact hw3.size) | (with_reducible exact hb2.size) | omega | (simp <;> omega) | (simp <;> (have s := hw3.size; omega)) | (simp <;> (have s := hb2.size; omega)) | (have s0 := hw3.size; (try simp at s0); have s1 := hb2.size; (try simp at s1); (try simp); omega))⟩
    · have HN2 : Hid (r = p.take (p.length - k) ++ q.drop k) := Lib.hid (by rw [HR.out, jn_stop (by omega)])
      have im : decide ((k : Int) < min (p.length : Int) (q.length : Int)) = false := by simp; omega
      clear HR
      go_wp2
      refine Tail.region_below (by kernel_rfl) (by kernel_rfl) ?_
      repeat (go_big_quiet_step (fail))
      refine wpQuiet_nil ?_
      intro w1 hw1
      go_wp2
      apply Made.region_one 9 (.cells #[.slice a1 (p.length - k) c1, .slice (if c2 = k then a2 else Option.map (fun x => x.add k) a2) (q.length - k) (c2 - k)] 26) (fun g => .slice (some ⟨g, 0, none⟩) 2 2) (some 40) (by kernel_rfl) (by kernel_rfl) (by kernel_rfl)
      · intro B hB
        have kc := @Tail.cell_re
        simp only [List.take_succ_cons, List.take_zero]
        repeat (go_big_quiet_step (fail))
        exact wpQuiet_nil rfl
      · refine ⟨_, rfl, rfl, fun W => ⟨rfl, ?_⟩⟩
        simp [execOp, go_sem]
      · intro g W hg hW hx
        show wpList _ _ _ (List.drop 10 _) _ _
        simp only [List.drop_succ_cons, List.drop_zero]
        have g0 := Wide.cell_at hx 0 _ rfl
        have g1 := Wide.cell_at hx 1 _ rfl
        have e1 : (p.take (p.length - k)).length = p.length - k := by simp
        have e2 : (q.drop k).length = q.length - k := by simp
        rw [← e1] at g0
        rw [← e2] at g1
        have hb1 : Below w.heap.size w w1 := by repeat (first | (with_reducible exact Below.refl _ _) | (with_reducible refine Below.setCell ?_ ?_ _) | (with_reducible refine Below.drew ?_) | (with_reducible refine Below.alloc ?_ ?_ _) | (with_reducible refine Below.trans ?_ (Below.mono hw1 ?_)) | (with_reducible refine Below.trans ?_ (Below.mono hb ?_)) | (with_reducible exact hw1.size) | (with_reducible exact hb.size) | omega | (simp <;> omega) | (simp <;> (have s := hw1.size; omega)) | (simp <;> (have s := hb.size; omega)) | (have s0 := hw1.size; (try simp at s0); have s1 := hb.size; (try simp at s1); (try simp); omega))
        have hb2 : Below w.heap.size w W := by repeat (first | (with_reducible exact Below.refl _ _) | (with_reducible refine Below.setCell ?_ ?_ _) | (with_reducible refine Below.drew ?_) | (with_reducible refine Below.alloc ?_ ?_ _) | (with_reducible refine Below.trans ?_ (Below.mono hW ?_)) | (with_reducible refine Below.trans ?_ (Below.mono hb1 ?_)) | (with_reducible exact hW.size) | (with_reducible exact hb1.size) | omega | (simp <;> omega) | (simp <;> (have s := hW.size; omega)) | (simp <;> (have s := hb1.size; omega)) | (have s0 := hW.size; (try simp at s0); have s1 := hb1.size; (try simp at s1); (try simp); omega))
        have cC := concat2_any g a1 _ c1 _ (p.take (p.length - k)) (q.drop k) W g0 g1 (lies_take (H1.out.later hb2) _) (lies_drop (H2.out.later hb2) p2) (by omega) (by omega)
        rw [← HN2.out] at cC
        have HB := Lib.hid hb2
        clear g0 g1 e1 e2 hx hb1 hb2 hW hg
        go_wp2_with ((with_reducible refine cC.mono ?_); rintro e w3 ⟨ao, c, rfl, hL, hcap, hw3⟩)
        all_goals
          go_ret
          have hb2 := HB.out
          exact ⟨ao, c, rfl, hL.le hb2.size, hcap, by repeat (first | (with_reducible exact Below.refl _ _) | (with_reducible refine Below.setCell ?_ ?_ _) | (with_reducible refine Below.drew ?_) | (with_reducible refine Below.alloc ?_ ?_ _) | (with_reducible refine Below.trans ?_ (Below.mono hw3 ?_)) | (with_reducible refine Below.trans ?_ (Below.mono hb2 ?_)) | (with_reducible exact hw3.size) | (with_reducible exact hb2.size) | omega | (simp <;> omega) | (simp <;> (have s := hw3.size; omega)) | (simp <;> (have s := hb2.size; omega)) | (have s0 := hw3.size; (try simp at s0); have s1 := hb2.size; (try simp at s1); (try simp); omega))⟩

set_option maxHeartbeats 3200000 in
theorem thenW_any (a1 b1 a2 b2 : Option Addr) (k1 m1 k2 m2 : Nat) (p p' q q' : List Int) (w : World) (h1 : LiesOI w a1 p) (h2 : LiesOI w b1 p') (h3 : LiesOI w a2 q) (h4 : LiesOI w b2 q') (s1 : ∀ t ∈ q, IsStep t) (s2 : ∀ t ∈ p', IsStep t)
    (l1 : p.length ≤ k1) (l2 : p'.length ≤ m1) (l3 : q.length ≤ k2) (l4 : q'.length ≤ m2) (n1 : p.length ≤ 1000) (n2 : p'.length ≤ 1000) (n3 : q.length ≤ 1000) (n4 : q'.length ≤ 1000) :
    Calls Tryz.prog 85 #[.agg #[.slice a1 p.length k1, .slice b1 p'.length m1], .agg #[.slice a2 q.length k2, .slice b2 q'.length m2]] w fun e w' => ∃ a b k m, e = .returned (.agg #[.slice a (jnL p q).length k, .slice b (jnL q' p').length m]) ∧ LiesNI w' w.heap.size a (jnL p q) ∧ (jnL p q).length ≤ k ∧ LiesNI w' w.heap.size b (jnL q' p') ∧ (jnL q' p').length ≤ m ∧ Below w.heap.size w w' := by
  have c1 := fun W (h1 : LiesOI W a1 p) (h3 : LiesOI W a2 q) => joined_any a1 a2 k1 k2 p q W h1 h3 s1 l1 l3 n1 n3
  have c2 := fun W (h4 : LiesOI W b2 q') (h2 : LiesOI W b1 p') => joined_any b2 b1 m2 m1 q' p' W h4 h2 s2 l4 l2 n4 n2
  have H1 := Lib.hid h1
  have H2 := Lib.hid h2
  have H3 := Lib.hid h3
  have H4 := Lib.hid h4
  clear h1 h2 h3 h4 s1 s2
  go_enter Tryz.func85, Tryz.ntmps85
  go_wp2
  obtain ⟨X0, hX0⟩ : ∃ X, ((w.alloc (.cells #[.slice a1 p.length k1, .slice b1 p'.length m1] 117)).alloc (.cells #[.slice a2 q.length k2, .slice b2 q'.length m2] 117)).alloc (.cells #[.slice none 0 0, .slice none 0 0] 117) = X := ⟨_, rfl⟩
  have b0 : Below w.heap.size w X0 := by rw [← hX0]; repeat (first | (with_reducible exact Below.refl _ _) | (with_reducible refine Below.setCell ?_ ?_ _) | (with_reducible refine Below.drew ?_) | (with_reducible refine Below.alloc ?_ ?_ _) | omega | (simp <;> omega))
  have y0 : X0.cell? ⟨w.heap.size, 0, none⟩ = some (.slice a1 p.length k1) := by rw [← hX0]; simp [go_sem]
  have y1 : X0.cell? ⟨w.heap.size, 1, none⟩ = some (.slice b1 p'.length m1) := by rw [← hX0]; simp [go_sem]
  have y2 : X0.cell? ⟨w.heap.size + 1, 0, none⟩ = some (.slice a2 q.length k2) := by rw [← hX0]; simp [go_sem]
  have y3 : X0.cell? ⟨w.heap.size + 1, 1, none⟩ = some (.slice b2 q'.length m2) := by rw [← hX0]; simp [go_sem]
  have T0 : X0.heap[w.heap.size + 2]? = some (.cells #[.slice none 0 0, .slice none 0 0] 117 (0, 0)) := by
    rw [← hX0]
    refine (congrArg (fun i => (World.heap _)[i]?) ?_).trans (World.alloc_heap_new _ _)
    simp
  have z0 : w.heap.size + 2 < X0.heap.size := by rw [← hX0]; simp
  have y4 : X0.cell? ⟨w.heap.size + 2, 0, none⟩ = some (.slice none 0 0) := by rw [← hX0]; simp [go_sem]
  have y5 : X0.cell? ⟨w.heap.size + 2, 1, none⟩ = some (.slice none 0 0) := by rw [← hX0]; simp [go_sem]
  have f4 : ∀ j, X0.frozen? ⟨w.heap.size + 2, j, none⟩ = false := fun j => by rw [← hX0]; simp [go_sem]
  rw [hX0]
  have HT := Lib.hid T0
  clear hX0 T0
  go_region_held3 (fun w' => w'.cell? ⟨w.heap.size, 0, none⟩ = some (.slice a1 p.length k1) ∧ w'.cell? ⟨w.heap.size, 1, none⟩ = some (.slice b1 p'.length m1) ∧ w'.cell? ⟨w.heap.size + 1, 0, none⟩ = some (.slice a2 q.length k2) ∧ w'.cell? ⟨w.heap.size + 1, 1, none⟩ = some (.slice b2 q'.length m2))
    (first
      | (exact ⟨cell_far2 (cell_keep bX1 y0) (by simp <;> omega) (by simp <;> omega), cell_far2 (cell_keep bX1 y1) (by simp <;> omega) (by simp <;> omega), cell_far2 (cell_keep bX1 y2) (by simp <;> omega) (by simp <;> omega), cell_far2 (cell_keep bX1 y3) (by simp <;> omega) (by simp <;> omega)⟩)
      | (exact ⟨cell_far2 (cell_keep bX2 y0) (by simp <;> omega) (by simp <;> omega), cell_far2 (cell_keep bX2 y1) (by simp <;> omega) (by simp <;> omega), cell_far2 (cell_keep bX2 y2) (by simp <;> omega) (by simp <;> omega), cell_far2 (cell_keep bX2 y3) (by simp <;> omega) (by simp <;> omega)⟩)
      | go_keep
      | ((refine ⟨cell_keep (W := X0) ?_ y0, cell_keep (W := X0) ?_ y1, cell_keep (W := X0) ?_ y2, cell_keep (W := X0) ?_ y3⟩) <;> ((repeat (first | (with_reducible exact Below.refl _ _) | (with_reducible refine Below.setCell ?_ ?_ _) | (with_reducible refine Below.drew ?_) | (with_reducible refine Below.alloc ?_ ?_ _) | (with_reducible refine Below.trans ?_ (Below.mono hw1 ?_)) | (with_reducible exact hw1.size) | omega | (simp <;> omega) | (simp <;> (have s := hw1.size; omega)) | (have s0 := hw1.size; (try simp at s0); (try simp); omega))); done))
      | ((refine ⟨cell_keep (W := X0) ?_ y0, cell_keep (W := X0) ?_ y1, cell_keep (W := X0) ?_ y2, cell_keep (W := X0) ?_ y3⟩) <;> ((repeat (first | (with_reducible exact Below.refl _ _) | (with_reducible refine Below.setCell ?_ ?_ _) | (with_reducible refine Below.drew ?_) | (with_reducible refine Below.alloc ?_ ?_ _) | (with_reducible refine Below.trans ?_ (Below.mono hw2 ?_)) | (with_reducible exact hw2.size) | omega | (simp <;> omega) | (simp <;> (have s := hw2.size; omega)) | (have s0 := hw2.size; (try simp at s0); (try simp); omega))); done))
      | ((refine ⟨cell_keep (W := X0) ?_ y0, cell_keep (W := X0) ?_ y1, cell_keep (W := X0) ?_ y2, cell_keep (W := X0) ?_ y3⟩) <;> ((repeat (first | (with_reducible exact Below.refl _ _) | (with_reducible refine Below.setCell ?_ ?_ _) | (with_reducible refine Below.drew ?_) | (with_reducible refine Below.alloc ?_ ?_ _) | (with_reducible refine Below.trans ?_ (Below.mono hw2 ?_)) | (with_reducible refine Below.trans ?_ (Below.mono hw1 ?_)) | (with_reducible exact hw2.size) | (with_reducible exact hw1.size) | omega | (simp <;> omega) | (simp <;> (have s := hw2.size; omega)) | (simp <;> (have s := hw1.size; omega)) | (have s0 := hw2.size; (try simp at s0); have s1 := hw1.size; (try simp at s1); (try simp); omega))); done))
      | ((refine ⟨cell_keep (W := X0) ?_ y0, cell_keep (W := X0) ?_ y1, cell_keep (W := X0) ?_ y2, cell_keep (W := X0) ?_ y3⟩) <;> ((repeat (first | (with_reducible exact Below.refl _ _) | (with_reducible refine Below.setCell ?_ ?_ _) | (with_reducible refine Below.drew ?_) | (with_reducible refine Below.alloc ?_ ?_ _) | (with_reducible refine Below.trans ?_ (Below.mono hw1 ?_)) | (with_reducible refine Below.trans ?_ (Below.mono hw2 ?_)) | (with_reducible exact hw1.size) | (with_reducible exact hw2.size) | omega | (simp <;> omega) | (simp <;> (have s := hw1.size; omega)) | (simp <;> (have s := hw2.size; omega)) | (have s0 := hw1.size; (try simp at s0); have s1 := hw2.size; (try simp at s1); (try simp); omega))); done)))
    ((first
      | ((with_reducible refine (c1 _ ?_ ?_).mono ?_); (focus (refine H1.out.later ?_; (repeat (first | (with_reducible exact Below.refl _ _) | (with_reducible refine Below.setCell ?_ ?_ _) | (with_reducible refine Below.drew ?_) | (with_reducible refine Below.alloc ?_ ?_ _) | (with_reducible refine Below.trans ?_ (Below.mono hw2 ?_)) | (with_reducible refine Below.trans ?_ (Below.mono b0 ?_)) | (with_reducible exact hw2.size) | (with_reducible exact b0.size) | omega | (simp <;> omega) | (simp <;> (have s := hw2.size; omega)) | (simp <;> (have s := b0.size; omega)) | (have s0 := hw2.size; (try simp at s0); have s1 := b0.size; (try simp at s1); (try simp); omega))); done)); (focus (refine H3.out.later ?_; (repeat (first | (with_reducible exact Below.refl _ _) | (with_reducible refine Below.setCell ?_ ?_ _) | (with_reducible refine Below.drew ?_) | (with_reducible refine Below.alloc ?_ ?_ _) | (with_reducible refine Below.trans ?_ (Below.mono hw2 ?_)) | (with_reducible refine Below.trans ?_ (Below.mono b0 ?_)) | (with_reducible exact hw2.size) | (with_reducible exact b0.size) | omega | (simp <;> omega) | (simp <;> (have s := hw2.size; omega)) | (simp <;> (have s := b0.size; omega)) | (have s0 := hw2.size; (try simp at s0); have s1 := b0.size; (try simp at s1); (try simp); omega))); done)); rintro e w1 ⟨ao1, e1, rfl, hl1, hk1, hw1⟩; have HL1 := Lib.hid hl1; clear hl1; have bX1 : Below X0.heap.size X0 w1 := (by repeat (first | (with_reducible exact Below.refl _ _) | (with_reducible refine Below.setCell ?_ ?_ _) | (with_reducible refine Below.drew ?_) | (with_reducible refine Below.alloc ?_ ?_ _) | (with_reducible refine Below.trans ?_ (Below.mono hw1 ?_)) | (with_reducible refine Below.trans ?_ (Below.mono hw2 ?_)) | (with_reducible exact hw1.size) | (with_reducible exact hw2.size) | omega | (simp <;> omega) | (simp <;> (have s := hw1.size; omega)) | (simp <;> (have s := hw2.size; omega)) | (have s0 := hw1.size; (try simp at s0); have s1 := hw2.size; (try simp at s1); (try simp); omega))); have k01 := cell_keep bX1 y4; have k11 := cell_keep bX1 y5; have kf1 := fun j => (bX1.frozen (p := ⟨w.heap.size + 2, j, none⟩) z0).trans (f4 j); have kl1 := Nat.lt_of_lt_of_le z0 bX1.size)
      | ((with_reducible refine (c2 _ ?_ ?_).mono ?_); (focus (refine H4.out.later ?_; (repeat (first | (with_reducible exact Below.refl _ _) | (with_reducible refine Below.setCell ?_ ?_ _) | (with_reducible refine Below.drew ?_) | (with_reducible refine Below.alloc ?_ ?_ _) | (with_reducible refine Below.trans ?_ (Below.mono hw1 ?_)) | (with_reducible refine Below.trans ?_ (Below.mono b0 ?_)) | (with_reducible exact hw1.size) | (with_reducible exact b0.size) | omega | (simp <;> omega) | (simp <;> (have s := hw1.size; omega)) | (simp <;> (have s := b0.size; omega)) | (have s0 := hw1.size; (try simp at s0); have s1 := b0.size; (try simp at s1); (try simp); omega))); done)); (focus (refine H2.out.later ?_; (repeat (first | (with_reducible exact Below.refl _ _) | (with_reducible refine Below.setCell ?_ ?_ _) | (with_reducible refine Below.drew ?_) | (with_reducible refine Below.alloc ?_ ?_ _) | (with_reducible refine Below.trans ?_ (Below.mono hw1 ?_)) | (with_reducible refine Below.trans ?_ (Below.mono b0 ?_)) | (with_reducible exact hw1.size) | (with_reducible exact b0.size) | omega | (simp <;> omega) | (simp <;> (have s := hw1.size; omega)) | (simp <;> (have s := b0.size; omega)) | (have s0 := hw1.size; (try simp at s0); have s1 := b0.size; (try simp at s1); (try simp); omega))); done)); rintro e w2 ⟨ao2, e2, rfl, hl2, hk2, hw2⟩; have HL2 := Lib.hid hl2; clear hl2; have bX2 : Below X0.heap.size X0 w2 := (by repeat (first | (with_reducible exact Below.refl _ _) | (with_reducible refine Below.setCell ?_ ?_ _) | (with_reducible refine Below.drew ?_) | (with_reducible refine Below.alloc ?_ ?_ _) | (with_reducible refine Below.trans ?_ (Below.mono hw1 ?_)) | (with_reducible refine Below.trans ?_ (Below.mono hw2 ?_)) | (with_reducible exact hw1.size) | (with_reducible exact hw2.size) | omega | (simp <;> omega) | (simp <;> (have s := hw1.size; omega)) | (simp <;> (have s := hw2.size; omega)) | (have s0 := hw1.size; (try simp at s0); have s1 := hw2.size; (try simp at s1); (try simp); omega))); have k02 := cell_keep bX2 y4; have k12 := cell_keep bX2 y5; have kf2 := fun j => (bX2.frozen (p := ⟨w.heap.size + 2, j, none⟩) z0).trans (f4 j); have kl2 := Nat.lt_of_lt_of_le z0 bX2.size)))
  · have hb2 := (bX2.block _ z0).trans HT.out
    have gX := grown_setCells (w.heap.size + 2) [.slice ao1 (jnL p q).length e1, .slice ao2 (jnL q' p').length e2] 0 w2
    have hB : Below w.heap.size w w2 := by repeat (first | (with_reducible exact Below.refl _ _) | (with_reducible refine Below.setCell ?_ ?_ _) | (with_reducible refine Below.drew ?_) | (with_reducible refine Below.alloc ?_ ?_ _) | (with_reducible refine Below.trans ?_ (Below.mono bX2 ?_)) | (with_reducible refine Below.trans ?_ (Below.mono b0 ?_)) | (with_reducible exact bX2.size) | (with_reducible exact b0.size) | omega | (simp <;> omega) | (simp <;> (have s := bX2.size; omega)) | (simp <;> (have s := b0.size; omega)) | (have s0 := bX2.size; (try simp at s0); have s1 := b0.size; (try simp at s1); (try simp); omega))
    go_wp2
    refine bodyPost_ret (v := .agg #[.slice ao1 (jnL p q).length e1, .slice ao2 (jnL q' p').length e2]) ?_ rfl ⟨ao1, ao2, e1, e2, rfl, ?_, hk1, ?_, hk2, ?_⟩
    · simp [results, Tryz.results85, go_sem, k02, k12]
    · exact ((HL1.out.le (show w.heap.size ≤ X0.drew.heap.size from b0.size)).later hw2).other gX (two_slices hb2)
    · exact (HL2.out.le (by have := b0.size; have := bX1.size; omega)).other gX (two_slices hb2)
    · exact hB.grown gX hB.size (fun j e => by cases e; omega)
end Go.Proofs.YtjidbajcnomceaaGreat
