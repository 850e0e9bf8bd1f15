/- Through: the plaquettes of a link, as the program makes them.
Conditions: those written at each theorem. -/
import Derived.Test.YtpfhjdmgkckjfaaGreatDoorASortC
import Derived.Test.YtpfhjdmgkckjfaaGreatDoorATorA
import Derived.Test.YtpfhjdmgkckjfaaGreatDoorAPathA
namespace Go.Proofs.YtpfhjdmgkckjfaaGreatDoor
set_option linter.unusedVariables false
set_option linter.unusedSimpArgs false
set_option maxRecDepth 1000000
open Go.RowKit
open Cm Tm

/-- what the first k directions have given -/
def preL (a b c l : Int) : Nat → List Int
  | 0 => []
  | k + 1 => preL a b c l k ++ if l % 3 = (k : Int) then [] else two a b c l k
theorem preL_three (a b c l : Int) : preL a b c l 3 = Cm.four a b c l := by
  have h : l % 3 = 0 ∨ l % 3 = 1 ∨ l % 3 = 2 := by omega
  rcases h with h | h | h <;> simp [preL, Cm.four, h]
theorem preL_len (a b c l : Int) : ∀ k : Nat, (preL a b c l k).length ≤ 2 * k
  | 0 => by simp [preL]
  | k + 1 => by
    have := preL_len a b c l k
    unfold preL
    split <;> simp [two] <;> omega
/-- the error of a link -/
def lkR (a b c l r : Int) : Prop := (¬ Sz a b c ∧ r = 1) ∨ (Sz a b c ∧ ¬ (0 ≤ l ∧ l < 3 * (a * b * c)) ∧ r = 4) ∨ (Sz a b c ∧ 0 ≤ l ∧ l < 3 * (a * b * c) ∧ r = 0)
theorem two_cells {w : World} {b : Nat} {x y : Value} (h : w.cell? ⟨b, 0, none⟩ = some x) (h1 : w.cell? ⟨b, 1, none⟩ = some y) : ∀ j u, [x, y][j]? = some u → w.cell? (Addr.add ⟨b, 0, none⟩ j) = some u := fun j u hj => by
  match j, hj with
  | 0, hj => simp at hj; subst hj; exact h
  | 1, hj => simp at hj; subst hj; exact h1
  | n + 2, hj => simp at hj
theorem two_one (x y : Int) : ∀ u ∈ [vi x, vi y], u.oneCell' = true := fun u hu => by
  simp at hu
  rcases hu with rfl | rfl <;> rfl

set_option maxHeartbeats 3200000 in
theorem through_ok (a b c l : Int) (w : World) (hz : Sz a b c) (h0 : 0 ≤ l) (h1 : l < 3 * (a * b * c)) : Calls Tryz.prog 38 #[.agg #[.int .i64 a, .int .i64 b, .int .i64 c], .int .i64 l] w fun e w' => ∃ g k : Nat, e = .returned (.tuple #[.slice (some ⟨g, 0, none⟩) (thr a b c l).length k, .int .i64 0]) ∧ LiesI w' g 0 (thr a b c l) ∧ w.heap.size ≤ g ∧ Below w.heap.size w w' := by
  obtain ⟨i0, hi, hi0, hi1, hi2⟩ := info_parts infoI
  have c1 := fun W : World => sites_any a b c (a * b * c) 0 W (.inr ⟨hz, rfl, rfl⟩)
  have c2 := fun (t : Int) (ht : IsStep t) (W : World) => nextO_any a b c (l / 3) t (nx a b c (l / 3) t) 0 W (.inr (.inr (.inr ⟨hz, by omega, by omega, ht, rfl, rfl⟩)))
  have nr := fun t => nx_rng hz (l / 3) t
  obtain ⟨-, -, p3, -⟩ := mul_rng hz.a1 hz.a4 hz.b1 hz.b4 hz.c1 hz.c4
  have p4 := hz.p
  have HT := Lib.hid (thr_eq hz h0 h1)
  have H3 := Lib.hid (preL_three a b c l)
  have hlen := Lib.hid (preL_len a b c l)
  have hsucc := Lib.hid (fun k : Nat => (show preL a b c l (k + 1) = preL a b c l k ++ if l % 3 = (k : Int) then [] else two a b c l k from rfl))
  have htwo := Lib.hid (fun k : Nat => (show two a b c l k = [3 * (l / 3) + (l % 3 + k - 1), 3 * nx a b c (l / 3) (-(k : Int) - 1) + (l % 3 + k - 1)] from rfl))
  have hs0 : 0 ≤ l / 3 := by omega
  have hs1 : l / 3 < 16 := by omega
  have hd0 : 0 ≤ l % 3 := by omega
  have hd1 : l % 3 < 3 := by omega
  have NR := Lib.hid nr
  clear hz nr
  generalize a * b * c = m at *
  go_enter Tryz.func38, Tryz.ntmps38
  go_wp2_with ((with_reducible refine (c1 _).mono ?_); clear c1; rintro e w1 ⟨rfl, hw1⟩; have hc1 := Tail.cells hw1; have zw10 := Nat.lt_of_lt_of_le (n := w.heap.size) (by simp <;> omega) hw1.size)
  have hbx : ABox w1 w.heap.size a b c := (⟨by simp [go_sem], by simp [go_sem], by simp [go_sem], by simp⟩ : ABox (w.alloc (.cells #[.int .i64 a, .int .i64 b, .int .i64 c] 22)) w.heap.size a b c).later hw1
  have hB : Below w.heap.size w w1 := by repeat (first | (with_reducible exact Below.refl _ _) | (with_reducible refine Below.setCell ?_ ?_ _) | (with_reducible refine Below.drew ?_) | (with_reducible refine Below.alloc ?_ ?_ _) | (with_reducible refine Below.trans ?_ (Below.mono hw1 ?_)) | (with_reducible exact hw1.size) | omega | (simp <;> omega) | (simp <;> (have s := hw1.size; omega)) | (have s0 := hw1.size; (try simp at s0); (try simp); omega))
  have hP : w.heap.size + 1 ≤ w1.heap.size := by have := hw1.size; simpa using this
  clear hw1 hc1
  generalize l / 3 = s at *
  generalize l % 3 = d at *
  go_loopw [10, 11, 12, 13, 14, 35] (fun f _ _ _ _ q wr => ∃ (k : Nat) (v : Value), k ≤ 3 ∧ q = .int .i64 k ∧ v = f ∧ Hid (wr.ownsRow (w.heap.size + 1) 3 1 v (preL a b c l k).length ((preL a b c l k).map vi)) ∧ ABox wr w.heap.size a b c ∧ Below w.heap.size w wr) (fun _ _ _ _ _ q _ => 3 - (intOf q).toNat)
  case atStart => exact ⟨0, _, by omega, rfl, rfl, Lib.hid (World.ownsRow_nil _ _ _ _), hbx, hB⟩
  case round =>
    obtain ⟨k, v, hk, rfl, rfl, hown, hbx1, hb⟩ := hrel
    clear hbx hB
    have hbs := hb.size
    by_cases hlt : k < 3
    · have i1 : (k : Int) < 3 := by omega
      have hsk := hsucc.out k
      by_cases hkd : (k : Int) = d
      · have hkd' : ((k : Int) == d) = true := by simpa using hkd
        rw [if_pos hkd.symm, List.append_nil] at hsk
        have HSK := Lib.hid hsk
        clear hkd hsk
        go_wp2
        exact ⟨⟨k + 1, _, by omega, by go_num, rfl, by rw [HSK.out]; exact hown, hbx1, hb⟩, by simp [intOf]; omega⟩
      · have hkd' : ((k : Int) == d) = false := by simpa using hkd
        rw [if_neg (fun h => hkd h.symm), htwo.out k] at hsk
        have HSK := Lib.hid hsk
        have c3 := c2 (-(k : Int) - 1) ⟨by omega, by omega, by omega⟩
        obtain ⟨n1, n2⟩ := NR.out (-(k : Int) - 1)
        have hl2 := hlen.out k
        clear hkd hsk
        generalize nx a b c s (-(k : Int) - 1) = r at *
        have HBX := Lib.hid hbx1
        obtain ⟨d0, d1, d2, -⟩ := hbx1
        go_wp2_with (first | ((with_reducible refine (c3 _).mono ?_); clear c3; rintro e w2 ⟨rfl, hw2⟩) | (at_builtin; refine wpList_append_own _ rfl (.tmp 57) (.tmp 66) 67 rfl (w.heap.size + 1) 3 i0 _ 1 8 Tryz.underlying67 hi hi0 hi1 hi2 rfl (by decide) v (preL a b c l k).length ((preL a b c l k).map vi) rfl ((owned_later hown.out hw2).alloc _) ⟨w2.heap.size, 0, none⟩ 2 2 [vi (3 * s + (d + k - 1)), vi (3 * r + (d + k - 1))] rfl rfl (two_cells (by simp [go_sem, vi]) (by simp [go_sem, vi])) (two_one _ _) (by unfold maxLen; omega) (by omega) (by have := hw2.size; simp; omega) ?_; intro v' w4 hown4 hgrow4 _))
        have hfr := owned_from hown.out
        have hne := owned_ne hown.out (b := w.heap.size) (by omega)
        have hb1 : Below w.heap.size w w2 := by repeat (first | (with_reducible exact Below.refl _ _) | (with_reducible refine Below.setCell ?_ ?_ _) | (with_reducible refine Below.drew ?_) | (with_reducible refine Below.alloc ?_ ?_ _) | (with_reducible refine Below.trans ?_ (Below.mono hw2 ?_)) | (with_reducible refine Below.trans ?_ (Below.mono hb ?_)) | (with_reducible exact hw2.size) | (with_reducible exact hb.size) | omega | (simp <;> omega) | (simp <;> (have s := hw2.size; omega)) | (simp <;> (have s := hb.size; omega)) | (have s0 := hw2.size; (try simp at s0); have s1 := hb.size; (try simp at s1); (try simp); omega))
        have hb4 := (hb1.alloc hb1.size _).grown hgrow4 (by have := hb1.size; simp; omega) (fun j hj => by have := hfr j hj; omega)
        have hbx4 := ((HBX.out.later hw2).later ((Below.refl _ _).alloc (Nat.le_refl _) _)).grown hgrow4 hne
        have ho : w4.ownsRow (w.heap.size + 1) 3 1 v' (preL a b c l (k + 1)).length ((preL a b c l (k + 1)).map vi) := by
          rw [HSK.out, List.length_append, List.map_append]
          exact hown4
        clear hown4 hgrow4 hown hw2
        go_wp2
        exact ⟨⟨k + 1, _, by omega, by go_num, rfl, Lib.hid ho, hbx4, hb4⟩, by simp [intOf]; omega⟩
    · obtain rfl : k = 3 := by omega
      have hown' : wr.ownsRow (w.heap.size + 1) 3 1 v (Cm.four a b c l).length ((Cm.four a b c l).map vi) := by
        have := hown.out
        rwa [H3.out] at this
      have h4 : (Cm.four a b c l).length ≤ 1000 := by have := hlen.out 3; rw [H3.out] at this; omega
      have hnil : v ≠ .slice none 0 0 := by
        rintro rfl
        rcases hown'.2 with ⟨-, h⟩ | ⟨g, cap, cur, h, -⟩
        · unfold Cm.four two at h; split at h <;> (try split at h) <;> simp at h
        · simp at h
      obtain ⟨g, cap, rfl, hbg, -⟩ := Lib.holds_of_ownsRow (enc := vi) hown' hnil
      have c5 := sort_own _ g cap _ wr hown' h4
      have hli := (isort_perm (Cm.four a b c l)).length_eq
      have c6 := fun (W : World) h => compact_own (w.heap.size + 1) g cap (Cm.four a b c l).length (isort (Cm.four a b c l)) W h hli (by omega)
      have hgb : w.heap.size + 1 ≤ g := hbg
      rw [HT.out] at c6
      clear hown hown' hnil hli
      go_wp2_with (first | ((with_reducible refine c5.mono ?_); rintro e w5 ⟨rfl, hown5, hB5⟩) | ((with_reducible refine (c6 _ hown5).mono ?_); rintro e w6 ⟨rfl, hl6, hB6⟩))
      go_ret2
      exact ⟨g, cap, rfl, hl6, by omega, hB6 _ _ (hB5 _ _ hb (by omega)) (by omega)⟩
theorem thr_rng {a b c l p : Int} {i : Nat} (h : (thr a b c l)[i]? = some p) : 0 ≤ p ∧ p < 3 * (a * b * c) := by
  have hm := List.mem_of_getElem? h
  unfold thr at hm
  have h2 := (List.mem_filter.1 hm).1
  obtain ⟨n, hn, rfl⟩ := List.mem_map.1 h2
  have := List.mem_range.1 hn
  exact ⟨Int.natCast_nonneg n, by rw [Int.ofNat_eq_natCast]; omega⟩
end Go.Proofs.YtpfhjdmgkckjfaaGreatDoor
