/- The operator and the dagger, as the program applies them.
Conditions: the arms and the vector lie in memory as it is written. -/
import Derived.Test.YtmnlfojcofdaeaaStaC
import Derived.Test.YtmnlfojcofdaeaaFqM
namespace Go.Proofs.Ytmnlfojcofdaeaa
set_option linter.unusedVariables false
set_option linter.unusedSimpArgs false
set_option maxRecDepth 1000000
open Go.RowKit
open Um Tm Fm

theorem IBox.liesI {w : World} {g : Nat} {l : List Int} (k : IBox w g l) : LiesI w g 0 l := k.h
/-- every arm comes from a site -/
theorem arms_frm {a b c : Int} {L : List Q} {n : Nat} (h : Fld7 a b c L n) : ∀ k, k ≤ L.length → ∀ x ∈ arms a b c L k, x.frm < n
  | 0, _, x, hx => by simp [arms] at hx
  | k + 1, hk, x, hx => by
    have hy := nxl_rng h.z k
    have := h.e
    have := h.l
    simp only [arms, List.mem_append, List.mem_cons, List.not_mem_nil, or_false] at hx
    rcases hx with (hx | rfl) | rfl
    · exact arms_frm h k (by omega) x hx
    · show nxl a b c k < n
      omega
    · show k / 3 < n
      omega
theorem rows_frm {a b c : Int} {L : List Q} {n : Nat} (h : Fld7 a b c L n) : ∀ (s j : Nat) (x : Arm), s < n → (row (arms a b c L L.length) s)[j]? = some x → x.frm < n := fun s j x _ hx =>
  arms_frm h L.length (Nat.le_refl _) x (List.mem_filter.1 (List.mem_of_getElem? hx)).1
theorem rows_len {a b c : Int} {L : List Q} {n : Nat} (h : Fld7 a b c L n) : ∀ s, s < n → (row (arms a b c L L.length) s).length ≤ 1000000 := fun s _ => by
  have h1 := row_len (arms a b c L L.length) s
  rw [arms_len] at h1
  have := h.pos
  have := h.l
  omega
/-- the arms of a field -/
abbrev AL (a b c : Int) (L : List Q) : List Arm := arms a b c L L.length
theorem of7_any (a b c : Int) (L : List Q) (base g n gc bb off pc : Nat) (vs : Nat → Value) (M : List Sp) (w : World) (hF : Fld7 a b c L n) (hH : Hp w base g n vs (row (arms a b c L L.length))) (hM : LiesI w bb off (fl M)) (hn : M.length = n) : Calls Try.prog 51 #[.slice (some ⟨g, 0, none⟩) n gc, .slice (some ⟨bb, off, none⟩) n pc] w fun e w' => (∃ g k : Nat, e = .returned (.slice (some ⟨g, 0, none⟩) n k) ∧ IBox w' g (fl (hopL n (arms a b c L L.length) M)) ∧ w.heap.size ≤ g) ∧ Below w.heap.size w w' :=
  (of_any base g n gc bb off pc vs _ M w hH hM hn hF.pos.1 (rows_frm hF) (rows_len hF) (by have := hF.pos; omega)).mono fun e w' ⟨⟨g', k, he, hb, hg⟩, hw⟩ => ⟨⟨g', k, by rw [he, hopR_row, hopL_len], hb, hg⟩, hw⟩
set_option maxHeartbeats 1600000 in
theorem apply7_any (a b c ma : Int) (L : List Q) (base g n gc bb off pc : Nat) (vs : Nat → Value) (M : List Sp) (w : World) (hF : Fld7 a b c L n) (hm : IsM ma) (hH : Hp w base g n vs (row (arms a b c L L.length))) (hM : LiesI w bb off (fl M)) (hn : M.length = n) : Calls Try.prog 63 #[.slice (some ⟨g, 0, none⟩) n gc, .int .i64 ma, .slice (some ⟨bb, off, none⟩) n pc] w fun e w' => (∃ g k : Nat, e = .returned (.slice (some ⟨g, 0, none⟩) n k) ∧ IBox w' g (fl (opL 1 ma n (arms a b c L L.length) M)) ∧ w.heap.size ≤ g) ∧ Below w.heap.size w w' := by
  have HM := Lib.hid hM
  have HX := Lib.hid (apply_op ma (n := n) (arms a b c L L.length) M)
  have hlt := fl_lt hM (by have := hF.pos; omega)
  have hn6 : n ≤ 16 := hF.pos.2
  have c1 := of7_any a b c L base g n gc bb off pc vs M w hF hH hM hn
  have c2 : ∀ (W : World) (g1 k1 : Nat), IBox W g1 (fl (hopL n (arms a b c L L.length) M)) → LiesI W bb off (fl M) → bb ≠ g1 → Calls Try.prog 98 #[.slice (some ⟨g1, 0, none⟩) n k1, .int .i64 (4 * ma), .slice (some ⟨bb, off, none⟩) n pc] W fun e w' => e = .returned (.tuple #[]) ∧ IBox w' g1 (fl (opL 1 ma n (arms a b c L L.length) M)) ∧ W.grownBy w' (some g1) := fun W g1 k1 h1 h2 h3 => by
    have := addV_any (4 * ma) g1 k1 (some ⟨bb, off, none⟩) pc (hopL n (arms a b c L L.length) M) M W h1 (.inr ⟨bb, off, rfl, h2⟩) (fun b' o' h => by cases h; exact h3) (by rw [hopL_len, hn]) (by omega)
    rw [← hopR_row, HX.out, hn] at this
    exact this
  obtain ⟨m1, m2⟩ := hm
  clear hM hH hF hn
  go_enter Try.func63, Try.ntmps63
  go_wp2_with ((with_reducible refine c1.mono ?_); clear c1; rintro e w1 ⟨⟨g1, k1, rfl, hb1, hg1⟩, hw1⟩; have HB1 := Lib.hid hb1; clear hb1)
  go_wp2_with ((with_reducible refine (c2 _ _ _ HB1.out (HM.out.later hw1) (by omega)).mono ?_); clear c2; rintro e w2 ⟨rfl, hb2, hg2⟩; have HB2 := Lib.hid hb2; clear hb2)
  go_ret
  exact ⟨⟨g1, k1, rfl, HB2.out, hg1⟩, hw1.grown hg2 hw1.size (fun j hj => by cases hj; exact hg1)⟩
set_option maxHeartbeats 1600000 in
theorem dagger7_any (a b c ma : Int) (L : List Q) (base g n gc bb off pc : Nat) (vs : Nat → Value) (M : List Sp) (w : World) (hF : Fld7 a b c L n) (hm : IsM ma) (hH : Hp w base g n vs (row (arms a b c L L.length))) (hM : LiesI w bb off (fl M)) (hn : M.length = n) : Calls Try.prog 66 #[.slice (some ⟨g, 0, none⟩) n gc, .int .i64 ma, .slice (some ⟨bb, off, none⟩) n pc] w fun e w' => (∃ g k : Nat, e = .returned (.slice (some ⟨g, 0, none⟩) n k) ∧ IBox w' g (fl (opL (-1) ma n (arms a b c L L.length) M)) ∧ w.heap.size ≤ g) ∧ Below w.heap.size w w' := by
  have HM := Lib.hid hM
  have HH := Lib.hid hH
  have HX := Lib.hid (dagger_op ma (n := n) (arms a b c L L.length) M hn)
  have hp := hF.pos
  have c1 : Calls Try.prog 85 #[.int .i64 (4 * ma), .slice (some ⟨bb, off, none⟩) n pc] w fun e w' => (∃ g k : Nat, e = .returned (.slice (some ⟨g, 0, none⟩) n k) ∧ IBox w' g (fl (mulL (4 * ma) M)) ∧ w.heap.size ≤ g) ∧ Below w.heap.size w w' := by
    have := multiple_any (4 * ma) bb off pc M w hM (by omega) (by omega)
    rw [hn] at this
    exact this.mono fun e w' ⟨⟨g', k, he, hb, hg⟩, hw⟩ => ⟨⟨g', k, by rw [he, mulL_len, hn], hb, hg⟩, hw⟩
  have c2 : ∀ W : World, Hp W base g n vs (row (arms a b c L L.length)) → LiesI W bb off (fl M) → Calls Try.prog 51 #[.slice (some ⟨g, 0, none⟩) n gc, .slice (some ⟨bb, off, none⟩) n pc] W fun e w' => (∃ g k : Nat, e = .returned (.slice (some ⟨g, 0, none⟩) n k) ∧ IBox w' g (fl (hopL n (arms a b c L L.length) M)) ∧ W.heap.size ≤ g) ∧ Below W.heap.size W w' := fun W h1 h2 => of7_any a b c L base g n gc bb off pc vs M W hF h1 h2 hn
  have c3 : ∀ (W : World) (g1 k1 g2 k2 : Nat), LiesI W g1 0 (fl (mulL (4 * ma) M)) → LiesI W g2 0 (fl (hopL n (arms a b c L L.length) M)) → Calls Try.prog 99 #[.slice (some ⟨g1, 0, none⟩) n k1, .slice (some ⟨g2, 0, none⟩) n k2] W fun e w' => (∃ g k : Nat, e = .returned (.slice (some ⟨g, 0, none⟩) n k) ∧ IBox w' g (fl (opL (-1) ma n (arms a b c L L.length) M)) ∧ W.heap.size ≤ g) ∧ Below W.heap.size W w' := fun W g1 k1 g2 k2 h1 h2 => by
    have := minus_any g1 0 k1 g2 0 k2 (mulL (4 * ma) M) (hopL n (arms a b c L L.length) M) W h1 h2 (by rw [hopL_len]; omega) (by rw [hopL_len, mulL_len, hn]) (by rw [hopL_len]; omega)
    rw [hopL_len, ← hopR_row, HX.out] at this
    exact this.mono fun e w' ⟨⟨g', k, he, hb, hg⟩, hw⟩ => ⟨⟨g', k, by rw [he, opL_len], hb, hg⟩, hw⟩
  obtain ⟨m1, m2⟩ := hm
  clear hM hH hF hn hp
  go_enter Try.func66, Try.ntmps66
  go_wp2_with ((with_reducible refine c1.mono ?_); clear c1; rintro e w1 ⟨⟨g1, k1, rfl, hb1, hg1⟩, hw1⟩; have HB1 := Lib.hid hb1; clear hb1)
  go_wp2_with ((with_reducible refine (c2 _ (HH.out.later hw1) (HM.out.later hw1)).mono ?_); clear c2; rintro e w2 ⟨⟨g2, k2, rfl, hb2, hg2⟩, hw2⟩; have HB2 := Lib.hid hb2; clear hb2)
  go_wp2_with ((with_reducible refine (c3 _ _ _ _ _ (HB1.out.later hw2).liesI HB2.out.liesI).mono ?_); clear c3; rintro e w3 ⟨⟨g3, k3, rfl, hb3, hg3⟩, hw3⟩; have HB3 := Lib.hid hb3; clear hb3)
  go_ret
  exact ⟨⟨g3, k3, rfl, HB3.out, by have := hw1.size; have := hw2.size; omega⟩, by repeat (first | (with_reducible exact Below.refl _ _) | (with_reducible refine Below.setCell ?_ ?_ _) | (with_reducible refine Below.drew ?_) | (with_reducible refine Below.alloc ?_ ?_ _) | (with_reducible refine Below.trans ?_ (Below.mono hw3 ?_)) | (with_reducible refine Below.trans ?_ (Below.mono hw2 ?_)) | (with_reducible refine Below.trans ?_ (Below.mono hw1 ?_)) | (with_reducible exact hw3.size) | (with_reducible exact hw2.size) | (with_reducible exact hw1.size) | omega | (simp <;> omega) | (simp <;> (have s := hw3.size; omega)) | (simp <;> (have s := hw2.size; omega)) | (simp <;> (have s := hw1.size; omega)) | (have s0 := hw3.size; (try simp at s0); have s1 := hw2.size; (try simp at s1); have s2 := hw1.size; (try simp at s2); (try simp); omega))⟩
end Go.Proofs.Ytmnlfojcofdaeaa
