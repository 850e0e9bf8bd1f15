/- Fields of given numbers, as the program and the document's answers make them.
Conditions: those written at each theorem. -/
import Derived.Test.YtilbhcjnkmeecaaGreatCold
import Derived.Test.YtilbhcjnkmeecaaGreatNumC
import Derived.Test.YtilbhcjnkmeecaaGreatRefSmall
namespace Go.Proofs.YtilbhcjnkmeecaaGreat
set_option linter.unusedVariables false
set_option linter.unusedSimpArgs false
set_option maxRecDepth 1000000
open Go.RowKit
open Um Tm

def Gd (x : Int) : Prop := 0 ≤ x ∧ x ≤ 23
/-- What a call returns that makes a field of these numbers. -/
def RetFN (a b c : Int) (l : List Int) (e : Ending) (w' : World) : Prop := ((∀ (i : Nat) (x : Int), l[i]? = some x → Gd x) ∧ RetF a b c (l.map small) e w') ∨ ((∃ (i : Nat) (x : Int), l[i]? = some x ∧ ¬ Gd x) ∧ e = .returned (.tuple #[.agg #[.int .i64 0, .int .i64 0, .int .i64 0, .slice none 0 0], .int .i64 1]))

set_option maxHeartbeats 1600000 in
theorem fromNumbers_len (a b c : Int) (ao : Option Addr) (nl cap : Nat) (n : Nat) (w : World) (hz : Sz a b c) (hn : (n : Int) = 3 * (a * b * c)) (hne : nl ≠ n) : Calls Tryz.prog 66 #[.agg #[.int .i64 a, .int .i64 b, .int .i64 c], .slice ao nl cap] w fun e w' => e = .returned (.tuple #[.agg #[.int .i64 0, .int .i64 0, .int .i64 0, .slice none 0 0], .int .i64 1]) ∧ Below w.heap.size w w' := by
  have c1 := fun W : World => sizes_any a b c 0 W (.inl ⟨hz, rfl⟩)
  have c2 := fun W : World => blank_any a b c n W hz hn
  have hne' : ((nl : Int) != (n : Int)) = true := by simp; omega
  clear hz hn hne
  go_enter Tryz.func66, Tryz.ntmps66
  go_wp2_with (first | ((with_reducible refine (c1 _).mono ?_); clear c1; rintro e w1 ⟨rfl, hw1⟩; have hc1 := Tail.cells hw1; have zw10 := Nat.lt_of_lt_of_le (n := w.heap.size) (by simp <;> omega) hw1.size; have zw11 := Nat.lt_of_lt_of_le (n := w.heap.size + 1) (by simp <;> omega) hw1.size) | ((with_reducible refine (c2 _).mono ?_); clear c2; rintro e w2 ⟨g, rfl, hL, hg, hw2⟩; have hc2 := Tail.cells hw2; have z0 := Nat.lt_of_lt_of_le zw10 hw2.size; have z1 := Nat.lt_of_lt_of_le zw11 hw2.size))
  refine bodyPost_ret (v := .tuple #[.agg #[.int .i64 0, .int .i64 0, .int .i64 0, .slice none 0 0], .int .i64 1]) ?_ rfl ⟨rfl, ?_⟩
  · simp [results, Tryz.results66, go_sem, hc1, hc2, zw10, zw11, z0, z1]
  · repeat (first | (with_reducible exact Below.refl _ _) | (with_reducible refine Below.setCell ?_ ?_ _) | (with_reducible refine Below.drew ?_) | (with_reducible refine Below.alloc ?_ ?_ _) | (with_reducible refine Below.trans ?_ (Below.mono hw2 ?_)) | (with_reducible refine Below.trans ?_ (Below.mono hw1 ?_)) | (with_reducible exact hw2.size) | (with_reducible exact hw1.size) | omega | (simp <;> omega) | (simp <;> (have s := hw2.size; omega)) | (simp <;> (have s := hw1.size; omega)) | (have s0 := hw2.size; (try simp at s0); have s1 := hw1.size; (try simp at s1); (try simp); omega))
theorem good_next {l : List Int} {k : Nat} {x : Int} (h : ∀ (i : Nat) (y : Int), i < k → l[i]? = some y → Gd y) (hx : l[k]? = some x) (hg : Gd x) : ∀ (i : Nat) (y : Int), i < k + 1 → l[i]? = some y → Gd y := fun i y hi hy => by
  by_cases he : i < k
  · exact h i y he hy
  · obtain rfl : i = k := by omega
    rw [hx] at hy
    simp only [Option.some.injEq] at hy
    rw [← hy]
    exact hg

set_option maxHeartbeats 3200000 in
theorem fromNumbers_ok (a b c : Int) (bl off cap : Nat) (l : List Int) (n : Nat) (w : World) (hz : Sz a b c) (hn : (n : Int) = 3 * (a * b * c)) (hn48 : n ≤ 48) (hl : LiesI w bl off l) (hln : l.length = n) : Calls Tryz.prog 66 #[.agg #[.int .i64 a, .int .i64 b, .int .i64 c], .slice (some ⟨bl, off, none⟩) n cap] w fun e w' => RetFN a b c l e w' ∧ Below w.heap.size w w' := by
  have c1 := fun W : World => sizes_any a b c 0 W (.inl ⟨hz, rfl⟩)
  have c2 := fun W : World => blank_any a b c n W hz hn
  have hT : (l.map small).length = n := by rw [List.length_map, hln]
  have fz := fillTo_zero (l.map small)
  have fe := fillTo_end (l.map small)
  have fat := fun k h => fillTo_at (l.map small) k h
  have fst : ∀ (k : Nat) (x : Int), l[k]? = some x → (fillTo (l.map small) k).set k (small x) = fillTo (l.map small) (k + 1) := fun k x hx => by
    have hk := (List.getElem?_eq_some_iff.1 hx).1
    have := fillTo_step (l.map small) k (by rw [List.length_map]; exact hk)
    rw [List.getElem_map, (List.getElem?_eq_some_iff.1 hx).2] at this
    exact this
  have flen := fun k h => fillTo_len (l.map small) k h
  rw [hT] at fz fe fat flen
  have FZ := Lib.hid fz
  have FE := Lib.hid fe
  have FA := Lib.hid fat
  have FS := Lib.hid fst
  have FL := Lib.hid flen
  have HI := Lib.hid hl
  have HLN := Lib.hid hln
  have HTN := Lib.hid hT
  have hne' : ((n : Int) != (n : Int)) = false := by simp
  clear hz hn fz fe fat fst flen hT hl hln
  have hTT : ∃ T, T = l.map small := ⟨_, rfl⟩
  obtain ⟨T, hT⟩ := hTT
  rw [← hT] at FZ FE FA FS FL HTN
  have HT := Lib.hid hT
  clear hT
  go_enter Tryz.func66, Tryz.ntmps66
  go_wp2_with (first | ((with_reducible refine (c1 _).mono ?_); clear c1; rintro e w1 ⟨rfl, hw1⟩; have hc1 := Tail.cells hw1; have zw10 := Nat.lt_of_lt_of_le (n := w.heap.size) (by simp <;> omega) hw1.size; have zw11 := Nat.lt_of_lt_of_le (n := w.heap.size + 1) (by simp <;> omega) hw1.size) | ((with_reducible refine (c2 _).mono ?_); clear c2; rintro e w2 ⟨g, rfl, hL, hg, hw2⟩; have HL := Lib.hid hL; clear hL))
  have r0 := ((⟨by simp [go_sem], by simp [go_sem], by simp [go_sem], by simp [go_sem], fun j => by simp [go_sem], by simp⟩ : FW ((w.alloc (.cells #[.int .i64 a, .int .i64 b, .int .i64 c] 22)).alloc (.cells #[.int .i64 0, .int .i64 0, .int .i64 0, .slice none 0 0] 25)) (w.heap.size + 1) 0 0 0 (.slice none 0 0)).later hw1).later hw2
  have r1 := r0.later ((Below.refl _ _).alloc (Nat.le_refl _) (.cells #[.int .i64 a, .int .i64 b, .int .i64 c, .slice (some ⟨g, 0, none⟩) n n] 25))
  have f1 : FW (w2.alloc (.cells #[.int .i64 a, .int .i64 b, .int .i64 c, .slice (some ⟨g, 0, none⟩) n n] 25)) w2.heap.size a b c (.slice (some ⟨g, 0, none⟩) n n) := ⟨by simp [go_sem], by simp [go_sem], by simp [go_sem], by simp [go_sem], fun j => by simp [go_sem], by simp⟩
  have l1 := HL.out.later ((Below.refl _ _).alloc (Nat.le_refl _) (.cells #[.int .i64 a, .int .i64 b, .int .i64 c, .slice (some ⟨g, 0, none⟩) n n] 25))
  rw [← FZ.out] at l1
  have hB : Below w.heap.size w (w2.alloc (.cells #[.int .i64 a, .int .i64 b, .int .i64 c, .slice (some ⟨g, 0, none⟩) n n] 25)) := by repeat (first | (with_reducible exact Below.refl _ _) | (with_reducible refine Below.setCell ?_ ?_ _) | (with_reducible refine Below.drew ?_) | (with_reducible refine Below.alloc ?_ ?_ _) | (with_reducible refine Below.trans ?_ (Below.mono hw2 ?_)) | (with_reducible refine Below.trans ?_ (Below.mono hw1 ?_)) | (with_reducible exact hw2.size) | (with_reducible exact hw1.size) | omega | (simp <;> omega) | (simp <;> (have s := hw2.size; omega)) | (simp <;> (have s := hw1.size; omega)) | (have s0 := hw2.size; (try simp at s0); have s1 := hw1.size; (try simp at s1); (try simp); omega))
  have hgp : g < w2.heap.size := HL.out.lt
  have hg2 : w.heap.size + 2 ≤ g := by have := hw1.size; simp at this; omega
  clear r0 HL hw1 hw2 hc1 zw10 zw11 hg
  generalize w2.heap.size = p at *
  go_loopw [8, 9, 10, 11, 29] (fun _ _ _ _ q wr => ∃ k : Nat, k ≤ n ∧ q = .int .i64 k ∧ Hid (∀ (i : Nat) (y : Int), i < k → l[i]? = some y → Gd y) ∧ FW wr p a b c (.slice (some ⟨g, 0, none⟩) n n) ∧ FW wr (w.heap.size + 1) 0 0 0 (.slice none 0 0) ∧ LBox wr g (fillTo T k) ∧ Below w.heap.size w wr) (fun _ _ _ _ q _ => n - (intOf q).toNat)
  case atStart => exact ⟨0, by omega, rfl, Lib.hid (fun i y h => by omega), f1, r1, l1, hB⟩
  case round =>
    obtain ⟨k, hk, rfl, hgd, ff, rr, lb, hb⟩ := hrel
    clear f1 r1 l1 hB
    have FF := Lib.hid ff
    have RR := Lib.hid rr
    have LB := Lib.hid lb
    have hbs := hb.size
    by_cases hlt : k < n
    · have i1 : (k : Int) < (n : Int) := by omega
      have hx : l[k]? = some (l[k]'(by rw [HLN.out]; exact hlt)) := List.getElem?_eq_getElem _
      have hcell := HI.out.later hb k _ hx
      have hbl : bl < wr.heap.size := World.block_lt_of_cell? wr _ hcell
      generalize l[k]'(by rw [HLN.out]; exact hlt) = x at *
      have HX := Lib.hid hx
      clear hx lb
      by_cases hg0 : Gd x
      · have c3 := fun W : World => small_any x W hg0.1 hg0.2
        have hnext := Lib.hid (good_next hgd.out HX.out hg0)
        have hst := FS.out k x HX.out
        have HST := Lib.hid hst
        clear hst hg0 hgd rr ff
        generalize small x = y at *
        go_wp2_with ((with_reducible refine (c3 _).mono ?_); clear c3; rintro e w3 ⟨rfl, hw3⟩; have F3 := FF.out.later hw3; have L3 := LB.out.later hw3; obtain ⟨f0, f1, f2, f3, fr, fl⟩ := F3; obtain ⟨l0, l1, l2, l3, l4⟩ := L3.at (FA.out k hlt); have lf := L3.free; have lbl := L3.lt; clear L3)
        have G1 := grown_setCells g (uc y) (k * 5) w3
        have AL : Below (w3.setCells g (k * 5) (uc y)).heap.size (w3.setCells g (k * 5) (uc y)) ((w3.setCells g (k * 5) (uc y)).alloc (.cells (uc y).toArray 40)) := (Below.refl _ _).alloc (Nat.le_refl _) _
        have L1 := ((LB.out.later hw3).put k (by rw [FL.out k hk]; exact hlt) y).later AL
        have F1 := ((FF.out.later hw3).grown G1 (by simp; omega)).later AL
        have R1 := ((RR.out.later hw3).grown G1 (by simp; omega)).later AL
        have hb3 : Below w.heap.size w w3 := by repeat (first | (with_reducible exact Below.refl _ _) | (with_reducible refine Below.setCell ?_ ?_ _) | (with_reducible refine Below.drew ?_) | (with_reducible refine Below.alloc ?_ ?_ _) | (with_reducible refine Below.trans ?_ (Below.mono hw3 ?_)) | (with_reducible refine Below.trans ?_ (Below.mono hb ?_)) | (with_reducible exact hw3.size) | (with_reducible exact hb.size) | omega | (simp <;> omega) | (simp <;> (have s := hw3.size; omega)) | (simp <;> (have s := hb.size; omega)) | (have s0 := hw3.size; (try simp at s0); have s1 := hb.size; (try simp at s1); (try simp); omega))
        have hb4 : Below w.heap.size w (w3.setCells g (k * 5) (uc y)) := hb3.grown G1 hb3.size (fun j hj => by simp at hj; omega)
        have hb5 := hb4.alloc hb4.size (.cells (uc y).toArray 40)
        rw [HST.out] at L1
        clear f0 f1 f2 f3 fr fl l0 l1 l2 l3 l4 lf lbl FF RR LB
        exact ⟨⟨k + 1, by omega, by go_num, hnext, F1, R1, L1, hb5⟩, by simp [intOf]; omega⟩
      · have c3 := fun W : World => small_bad x W (by unfold Gd at hg0; omega)
        have HG := Lib.hid hg0
        clear hg0 hgd rr ff
        go_wp2_with ((with_reducible refine (c3 _).mono ?_); clear c3; rintro e w3 ⟨rfl, hw3⟩; obtain ⟨d0, d1, d2, d3, df, dl⟩ := RR.out.later hw3)
        refine bodyPost_ret (v := .tuple #[.agg #[.int .i64 0, .int .i64 0, .int .i64 0, .slice none 0 0], .int .i64 1]) ?_ rfl ⟨.inr ⟨⟨k, x, HX.out, HG.out⟩, rfl⟩, ?_⟩
        · simp [results, Tryz.results66, go_sem, d0, d1, d2, d3, dl]
        · repeat (first | (with_reducible exact Below.refl _ _) | (with_reducible refine Below.setCell ?_ ?_ _) | (with_reducible refine Below.drew ?_) | (with_reducible refine Below.alloc ?_ ?_ _) | (with_reducible refine Below.trans ?_ (Below.mono hw3 ?_)) | (with_reducible refine Below.trans ?_ (Below.mono hb ?_)) | (with_reducible exact hw3.size) | (with_reducible exact hb.size) | omega | (simp <;> omega) | (simp <;> (have s := hw3.size; omega)) | (simp <;> (have s := hb.size; omega)) | (have s0 := hw3.size; (try simp at s0); have s1 := hb.size; (try simp at s1); (try simp); omega))
    · obtain rfl : k = n := by omega
      obtain ⟨f0, f1, f2, f3, fr, fl⟩ := ff
      obtain ⟨d0, d1, d2, d3, df, dl⟩ := rr
      clear lb
      go_wp2
      have G1 := grown_setCells (w.heap.size + 1) [.int .i64 a, .int .i64 b, .int .i64 c, .slice (some ⟨g, 0, none⟩) k k] 0 wr
      have L1 := LB.out.grown G1 (by simp; omega)
      rw [FE.out, HT.out] at L1
      refine bodyPost_ret (v := .tuple #[.agg #[.int .i64 a, .int .i64 b, .int .i64 c, .slice (some ⟨g, 0, none⟩) k k], .int .i64 0]) ?_ rfl ⟨.inl ⟨fun i x hx => hgd.out i x (by rw [← HLN.out]; exact (List.getElem?_eq_some_iff.1 hx).1) hx, ⟨g, k, by rw [List.length_map, HLN.out], L1.h⟩⟩, ?_⟩
      · simp [results, Tryz.results66, go_sem, d0, d1, d2, d3, dl]
      · repeat (first | (with_reducible exact Below.refl _ _) | (with_reducible refine Below.setCell ?_ ?_ _) | (with_reducible refine Below.drew ?_) | (with_reducible refine Below.alloc ?_ ?_ _) | (with_reducible refine Below.trans ?_ (Below.mono hb ?_)) | (with_reducible exact hb.size) | omega | (simp <;> omega) | (simp <;> (have s := hb.size; omega)) | (have s0 := hb.size; (try simp at s0); (try simp); omega))

end Go.Proofs.YtilbhcjnkmeecaaGreat
