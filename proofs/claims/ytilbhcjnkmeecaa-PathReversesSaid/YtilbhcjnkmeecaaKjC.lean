/- A trajectory's end, as the program makes it.
Conditions: those written at each theorem. -/
import Derived.Test.YtilbhcjnkmeecaaKiC
namespace Go.Proofs.Ytilbhcjnkmeecaa
set_option linter.unusedVariables false
set_option linter.unusedSimpArgs false
set_option maxRecDepth 1000000
open Go.RowKit
open Um Tm Cm Km

def RetFB (a b c : Int) (m n : Nat) (M : List Q) (e : Ending) (w' : World) : Prop := ∃ g k : Nat, e = .returned (.tuple #[.agg #[.int .i64 a, .int .i64 b, .int .i64 c, .slice (some ⟨g, 0, none⟩) n k], .int .i64 0]) ∧ LBox w' g M ∧ m ≤ g
set_option maxHeartbeats 3200000 in
theorem fromNumbersB_ok (a b c : Int) (bl off cap : Nat) (l : List Int) (n : Nat) (w : World) (hz : Sz a b c) (hn : (n : Int) = 3 * (a * b * c)) (hn48 : n ≤ 48) (hl : LiesI w bl off l) (hln : l.length = n) (hgood : ∀ (i : Nat) (x : Int), l[i]? = some x → Gd x) : Calls Try.prog 96 #[.agg #[.int .i64 a, .int .i64 b, .int .i64 c], .slice (some ⟨bl, off, none⟩) n cap] w fun e w' => RetFB a b c w.heap.size n (l.map small) e w' ∧ Below w.heap.size w w' := by
  have c1 := fun W : World => sizes_any a b c 0 W (.inl ⟨hz, rfl⟩)
  have c2 := fun W : World => blank_any a b c n W hz hn
  have hT : (l.map small).length = n := by rw [List.length_map, hln]
  have fz := fillTo_zero (l.map small)
  have fe := fillTo_end (l.map small)
  have fat := fun k h => fillTo_at (l.map small) k h
  have fst : ∀ (k : Nat) (x : Int), l[k]? = some x → (fillTo (l.map small) k).set k (small x) = fillTo (l.map small) (k + 1) := fun k x hx => by
    have hk := (List.getElem?_eq_some_iff.1 hx).1
    have := fillTo_step (l.map small) k (by rw [List.length_map]; exact hk)
    rw [List.getElem_map, (List.getElem?_eq_some_iff.1 hx).2] at this
    exact this
  have flen := fun k h => fillTo_len (l.map small) k h
  rw [hT] at fz fe fat flen
  have FZ := Lib.hid fz
  have FE := Lib.hid fe
  have FA := Lib.hid fat
  have FS := Lib.hid fst
  have FL := Lib.hid flen
  have HI := Lib.hid hl
  have HLN := Lib.hid hln
  have HGD := Lib.hid hgood
  have HTN := Lib.hid hT
  have hne' : ((n : Int) != (n : Int)) = false := by simp
  clear hz hn fz fe fat fst flen hT hl hln hgood
  have hTT : ∃ T, T = l.map small := ⟨_, rfl⟩
  obtain ⟨T, hT⟩ := hTT
  rw [← hT] at FZ FE FA FS FL HTN
  have HT := Lib.hid hT
  clear hT
  go_enter Try.func96, Try.ntmps96
  go_wp2_with (first | ((with_reducible refine (c1 _).mono ?_); clear c1; rintro e w1 ⟨rfl, hw1⟩; have hc1 := Tail.cells hw1; have zw10 := Nat.lt_of_lt_of_le (n := w.heap.size) (by simp <;> omega) hw1.size; have zw11 := Nat.lt_of_lt_of_le (n := w.heap.size + 1) (by simp <;> omega) hw1.size) | ((with_reducible refine (c2 _).mono ?_); clear c2; rintro e w2 ⟨g, rfl, hL, hg, hw2⟩; have HL := Lib.hid hL; clear hL))
  have r0 := ((⟨by simp [go_sem], by simp [go_sem], by simp [go_sem], by simp [go_sem], fun j => by simp [go_sem], by simp⟩ : FW ((w.alloc (.cells #[.int .i64 a, .int .i64 b, .int .i64 c] 22)).alloc (.cells #[.int .i64 0, .int .i64 0, .int .i64 0, .slice none 0 0] 25)) (w.heap.size + 1) 0 0 0 (.slice none 0 0)).later hw1).later hw2
  have r1 := r0.later ((Below.refl _ _).alloc (Nat.le_refl _) (.cells #[.int .i64 a, .int .i64 b, .int .i64 c, .slice (some ⟨g, 0, none⟩) n n] 25))
  have f1 : FW (w2.alloc (.cells #[.int .i64 a, .int .i64 b, .int .i64 c, .slice (some ⟨g, 0, none⟩) n n] 25)) w2.heap.size a b c (.slice (some ⟨g, 0, none⟩) n n) := ⟨by simp [go_sem], by simp [go_sem], by simp [go_sem], by simp [go_sem], fun j => by simp [go_sem], by simp⟩
  have l1 := HL.out.later ((Below.refl _ _).alloc (Nat.le_refl _) (.cells #[.int .i64 a, .int .i64 b, .int .i64 c, .slice (some ⟨g, 0, none⟩) n n] 25))
  rw [← FZ.out] at l1
  have hB : Below w.heap.size w (w2.alloc (.cells #[.int .i64 a, .int .i64 b, .int .i64 c, .slice (some ⟨g, 0, none⟩) n n] 25)) := by repeat (first | (with_reducible exact Below.refl _ _) | (with_reducible refine Below.setCell ?_ ?_ _) | (with_reducible refine Below.drew ?_) | (with_reducible refine Below.alloc ?_ ?_ _) | (with_reducible refine Below.trans ?_ (Below.mono hw2 ?_)) | (with_reducible refine Below.trans ?_ (Below.mono hw1 ?_)) | (with_reducible exact hw2.size) | (with_reducible exact hw1.size) | omega | (simp <;> omega) | (simp <;> (have s := hw2.size; omega)) | (simp <;> (have s := hw1.size; omega)) | (have s0 := hw2.size; (try simp at s0); have s1 := hw1.size; (try simp at s1); (try simp); omega))
  have hgp : g < w2.heap.size := HL.out.lt
  have hg2 : w.heap.size + 2 ≤ g := by have := hw1.size; simp at this; omega
  clear r0 HL hw1 hw2 hc1 zw10 zw11 hg
  generalize w2.heap.size = p at *
  go_loopw [8, 9, 10, 11, 29] (fun _ _ _ _ q wr => ∃ k : Nat, k ≤ n ∧ q = .int .i64 k ∧ Hid (∀ (i : Nat) (y : Int), i < k → l[i]? = some y → Gd y) ∧ FW wr p a b c (.slice (some ⟨g, 0, none⟩) n n) ∧ FW wr (w.heap.size + 1) 0 0 0 (.slice none 0 0) ∧ LBox wr g (fillTo T k) ∧ Below w.heap.size w wr) (fun _ _ _ _ q _ => n - (intOf q).toNat)
  case atStart => exact ⟨0, by omega, rfl, Lib.hid (fun i y h => by omega), f1, r1, l1, hB⟩
  case round =>
    obtain ⟨k, hk, rfl, hgd, ff, rr, lb, hb⟩ := hrel
    clear f1 r1 l1 hB
    have FF := Lib.hid ff
    have RR := Lib.hid rr
    have LB := Lib.hid lb
    have hbs := hb.size
    by_cases hlt : k < n
    · have i1 : (k : Int) < (n : Int) := by omega
      have hx : l[k]? = some (l[k]'(by rw [HLN.out]; exact hlt)) := List.getElem?_eq_getElem _
      have hcell := HI.out.later hb k _ hx
      have hbl : bl < wr.heap.size := World.block_lt_of_cell? wr _ hcell
      generalize l[k]'(by rw [HLN.out]; exact hlt) = x at *
      have HX := Lib.hid hx
      clear hx lb
      by_cases hg0 : Gd x
      · have c3 := fun W : World => small_any x W hg0.1 hg0.2
        have hnext := Lib.hid (good_next hgd.out HX.out hg0)
        have hst := FS.out k x HX.out
        have HST := Lib.hid hst
        clear hst hg0 hgd rr ff
        generalize small x = y at *
        go_wp2_with ((with_reducible refine (c3 _).mono ?_); clear c3; rintro e w3 ⟨rfl, hw3⟩; have F3 := FF.out.later hw3; have L3 := LB.out.later hw3; obtain ⟨f0, f1, f2, f3, fr, fl⟩ := F3; obtain ⟨l0, l1, l2, l3, l4⟩ := L3.at (FA.out k hlt); have lf := L3.free; have lbl := L3.lt; clear L3)
        have G1 := grown_setCells g (uc y) (k * 5) w3
        have AL : Below (w3.setCells g (k * 5) (uc y)).heap.size (w3.setCells g (k * 5) (uc y)) ((w3.setCells g (k * 5) (uc y)).alloc (.cells (uc y).toArray 36)) := (Below.refl _ _).alloc (Nat.le_refl _) _
        have L1 := ((LB.out.later hw3).put k (by rw [FL.out k hk]; exact hlt) y).later AL
        have F1 := ((FF.out.later hw3).grown G1 (by simp; omega)).later AL
        have R1 := ((RR.out.later hw3).grown G1 (by simp; omega)).later AL
        have hb3 : Below w.heap.size w w3 := by repeat (first | (with_reducible exact Below.refl _ _) | (with_reducible refine Below.setCell ?_ ?_ _) | (with_reducible refine Below.drew ?_) | (with_reducible refine Below.alloc ?_ ?_ _) | (with_reducible refine Below.trans ?_ (Below.mono hw3 ?_)) | (with_reducible refine Below.trans ?_ (Below.mono hb ?_)) | (with_reducible exact hw3.size) | (with_reducible exact hb.size) | omega | (simp <;> omega) | (simp <;> (have s := hw3.size; omega)) | (simp <;> (have s := hb.size; omega)) | (have s0 := hw3.size; (try simp at s0); have s1 := hb.size; (try simp at s1); (try simp); omega))
        have hb4 : Below w.heap.size w (w3.setCells g (k * 5) (uc y)) := hb3.grown G1 hb3.size (fun j hj => by simp at hj; omega)
        have hb5 := hb4.alloc hb4.size (.cells (uc y).toArray 36)
        rw [HST.out] at L1
        clear f0 f1 f2 f3 fr fl l0 l1 l2 l3 l4 lf lbl FF RR LB
        exact ⟨⟨k + 1, by omega, by go_num, hnext, F1, R1, L1, hb5⟩, by simp [intOf]; omega⟩
      · have c3 := fun W : World => small_bad x W (by unfold Gd at hg0; omega)
        have HG := Lib.hid hg0
        clear hg0 hgd rr ff
        go_wp2_with ((with_reducible refine (c3 _).mono ?_); clear c3; rintro e w3 ⟨rfl, hw3⟩; obtain ⟨d0, d1, d2, d3, df, dl⟩ := RR.out.later hw3)
        refine bodyPost_ret (v := .tuple #[.agg #[.int .i64 0, .int .i64 0, .int .i64 0, .slice none 0 0], .int .i64 1]) ?_ rfl ⟨absurd (HGD.out k x HX.out) HG.out, ?_⟩
        · simp [results, Try.results96, go_sem, d0, d1, d2, d3, dl]
        · repeat (first | (with_reducible exact Below.refl _ _) | (with_reducible refine Below.setCell ?_ ?_ _) | (with_reducible refine Below.drew ?_) | (with_reducible refine Below.alloc ?_ ?_ _) | (with_reducible refine Below.trans ?_ (Below.mono hw3 ?_)) | (with_reducible refine Below.trans ?_ (Below.mono hb ?_)) | (with_reducible exact hw3.size) | (with_reducible exact hb.size) | omega | (simp <;> omega) | (simp <;> (have s := hw3.size; omega)) | (simp <;> (have s := hb.size; omega)) | (have s0 := hw3.size; (try simp at s0); have s1 := hb.size; (try simp at s1); (try simp); omega))
    · obtain rfl : k = n := by omega
      obtain ⟨f0, f1, f2, f3, fr, fl⟩ := ff
      obtain ⟨d0, d1, d2, d3, df, dl⟩ := rr
      clear lb
      go_wp2
      have G1 := grown_setCells (w.heap.size + 1) [.int .i64 a, .int .i64 b, .int .i64 c, .slice (some ⟨g, 0, none⟩) k k] 0 wr
      have L1 := LB.out.grown G1 (by simp; omega)
      rw [FE.out, HT.out] at L1
      refine bodyPost_ret (v := .tuple #[.agg #[.int .i64 a, .int .i64 b, .int .i64 c, .slice (some ⟨g, 0, none⟩) k k], .int .i64 0]) ?_ rfl ⟨⟨g, k, rfl, L1, by omega⟩, ?_⟩
      · simp [results, Try.results96, go_sem, d0, d1, d2, d3, dl]
      · repeat (first | (with_reducible exact Below.refl _ _) | (with_reducible refine Below.setCell ?_ ?_ _) | (with_reducible refine Below.drew ?_) | (with_reducible refine Below.alloc ?_ ?_ _) | (with_reducible refine Below.trans ?_ (Below.mono hb ?_)) | (with_reducible exact hb.size) | omega | (simp <;> omega) | (simp <;> (have s := hb.size; omega)) | (have s0 := hb.size; (try simp at s0); (try simp); omega))
def RetE (a b c : Int) (n m gm km : Nat) (L : List Q) (e : Ending) (w' : World) : Prop := ∃ g k : Nat, e = .returned (.tuple #[.agg #[.int .i64 a, .int .i64 b, .int .i64 c, .slice (some ⟨g, 0, none⟩) n k], .slice (some ⟨gm, 0, none⟩) n km, .int .i64 0]) ∧ LBox w' g L ∧ m ≤ g
set_option maxHeartbeats 6400000 in
theorem end_ok (a b c : Int) (n N : Nat) (w : World) (m B gl gx gp gm kl kx km : Nat) (L : List Q) (l : List Int) (hC : CO a b c n N w m B gl gx gp kl kx L) (hM : CM n w m B gl gx gp gm km l) (hz : Sz a b c) (hn : (n : Int) = 3 * (a * b * c)) (hn48 : n ≤ 48) (hS : ∀ x ∈ L, IsS x) (hL : L.length = n) :
    Calls Try.prog 61 #[.pointer (some ⟨B, 0, none⟩)] w fun e w' => RetE a b c n w.heap.size gm km L e w' ∧ Below w.heap.size w w' := by
  have c1 : ∀ W : World, LiesI W gl 0 (L.map nm) → Calls Try.prog 96 #[.agg #[.int .i64 a, .int .i64 b, .int .i64 c], .slice (some ⟨gl, 0, none⟩) n kl] W fun e w' => RetFB a b c W.heap.size n L e w' ∧ Below W.heap.size W w' := fun W hl => by
    have := fromNumbersB_ok a b c gl 0 kl (L.map nm) n W hz hn hn48 hl (by rw [List.length_map, hL]) (fun i x hx => by
      rw [List.getElem?_map] at hx
      cases hi : L[i]? with
      | none => rw [hi] at hx; simp at hx
      | some y =>
        rw [hi] at hx
        simp at hx
        subst hx
        have := (hS y (List.mem_of_getElem? hi)).nm
        exact ⟨this.1, this.2.1⟩)
    rwa [small_nm_map hS] at this
  obtain ⟨z0, z1, z2, cl⟩ := And.intro hC.z0 (And.intro hC.z1 (And.intro hC.z2 hC.cl))
  have c4 := hM.cm
  have lb := hC.lb
  have HL := Lib.hid hC.li.h
  clear hC hM hS hL hz hn
  go_enter Try.func61, Try.ntmps61
  go_wp2
  obtain ⟨X0, hX0⟩ : ∃ X, w.alloc (.cells #[.int .i64 0, .int .i64 0, .int .i64 0, .slice none 0 0] 25) = X := ⟨_, rfl⟩
  have F0 : FW X0 w.heap.size 0 0 0 (.slice none 0 0) := by rw [← hX0]; exact ⟨by simp [go_sem], by simp [go_sem], by simp [go_sem], by simp [go_sem], fun j => by simp [go_sem], by simp⟩
  have b0 : Below w.heap.size w X0 := by rw [← hX0]; repeat (first | (with_reducible exact Below.refl _ _) | (with_reducible refine Below.setCell ?_ ?_ _) | (with_reducible refine Below.drew ?_) | (with_reducible refine Below.alloc ?_ ?_ _) | omega | (simp <;> omega))
  have y0 := held_below b0 z0
  have y1 := held_below b0 z1
  have y2 := held_below b0 z2
  have yl := held_below b0 cl
  have y4 := held_below b0 c4
  have hb0 : w.heap.size + 1 = X0.heap.size := by rw [← hX0]; simp
  rw [hX0]
  have HF0 := Lib.hid F0
  have HX0 := Lib.hid hb0
  clear hX0 F0 z0 z1 z2 cl c4 hb0
  go_region_held3 (fun w' => w'.cell? ⟨B, 0, none⟩ = some (.int .i64 a) ∧ w'.cell? ⟨B, 1, none⟩ = some (.int .i64 b) ∧ w'.cell? ⟨B, 2, none⟩ = some (.int .i64 c) ∧ w'.cell? ⟨B, 3, none⟩ = some (.slice (some ⟨gl, 0, none⟩) n kl))
    (first
      | go_keep
      | (exact ⟨held_below (W := X0) (by repeat (first | (with_reducible exact Below.refl _ _) | (with_reducible refine Below.setCell ?_ ?_ _) | (with_reducible refine Below.drew ?_) | (with_reducible refine Below.alloc ?_ ?_ _) | (with_reducible refine Below.trans ?_ (Below.mono hw1 ?_)) | (with_reducible exact hw1.size) | omega | (simp <;> omega) | (simp <;> (have s := hw1.size; omega)) | (have s0 := hw1.size; (try simp at s0); (try simp); omega))) y0, held_below (W := X0) (by repeat (first | (with_reducible exact Below.refl _ _) | (with_reducible refine Below.setCell ?_ ?_ _) | (with_reducible refine Below.drew ?_) | (with_reducible refine Below.alloc ?_ ?_ _) | (with_reducible refine Below.trans ?_ (Below.mono hw1 ?_)) | (with_reducible exact hw1.size) | omega | (simp <;> omega) | (simp <;> (have s := hw1.size; omega)) | (have s0 := hw1.size; (try simp at s0); (try simp); omega))) y1, held_below (W := X0) (by repeat (first | (with_reducible exact Below.refl _ _) | (with_reducible refine Below.setCell ?_ ?_ _) | (with_reducible refine Below.drew ?_) | (with_reducible refine Below.alloc ?_ ?_ _) | (with_reducible refine Below.trans ?_ (Below.mono hw1 ?_)) | (with_reducible exact hw1.size) | omega | (simp <;> omega) | (simp <;> (have s := hw1.size; omega)) | (have s0 := hw1.size; (try simp at s0); (try simp); omega))) y2, held_below (W := X0) (by repeat (first | (with_reducible exact Below.refl _ _) | (with_reducible refine Below.setCell ?_ ?_ _) | (with_reducible refine Below.drew ?_) | (with_reducible refine Below.alloc ?_ ?_ _) | (with_reducible refine Below.trans ?_ (Below.mono hw1 ?_)) | (with_reducible exact hw1.size) | omega | (simp <;> omega) | (simp <;> (have s := hw1.size; omega)) | (have s0 := hw1.size; (try simp at s0); (try simp); omega))) yl⟩)
      | (exact ⟨held_below (W := X0) (by repeat (first | (with_reducible exact Below.refl _ _) | (with_reducible refine Below.setCell ?_ ?_ _) | (with_reducible refine Below.drew ?_) | (with_reducible refine Below.alloc ?_ ?_ _) | omega | (simp <;> omega))) y0, held_below (W := X0) (by repeat (first | (with_reducible exact Below.refl _ _) | (with_reducible refine Below.setCell ?_ ?_ _) | (with_reducible refine Below.drew ?_) | (with_reducible refine Below.alloc ?_ ?_ _) | omega | (simp <;> omega))) y1, held_below (W := X0) (by repeat (first | (with_reducible exact Below.refl _ _) | (with_reducible refine Below.setCell ?_ ?_ _) | (with_reducible refine Below.drew ?_) | (with_reducible refine Below.alloc ?_ ?_ _) | omega | (simp <;> omega))) y2, held_below (W := X0) (by repeat (first | (with_reducible exact Below.refl _ _) | (with_reducible refine Below.setCell ?_ ?_ _) | (with_reducible refine Below.drew ?_) | (with_reducible refine Below.alloc ?_ ?_ _) | omega | (simp <;> omega))) yl⟩))
    (((with_reducible refine (c1 _ (HL.out.later (by repeat (first | (with_reducible exact Below.refl _ _) | (with_reducible refine Below.setCell ?_ ?_ _) | (with_reducible refine Below.drew ?_) | (with_reducible refine Below.alloc ?_ ?_ _) | (with_reducible refine Below.trans ?_ (Below.mono b0 ?_)) | (with_reducible exact b0.size) | omega | (simp <;> omega) | (simp <;> (have s := b0.size; omega)) | (have s0 := b0.size; (try simp at s0); (try simp); omega))))).mono ?_); rintro e w1 ⟨⟨g, k, rfl, hbx, hg⟩, hw1⟩; have HBX := Lib.hid hbx; have hc1 := Tail.cells hw1; clear hbx))
  · have FW1 : FW (w1.alloc (.cells #[.int .i64 a, .int .i64 b, .int .i64 c, .slice (some ⟨g, 0, none⟩) n k] 25)) w1.heap.size a b c (.slice (some ⟨g, 0, none⟩) n k) := ⟨by simp [go_sem], by simp [go_sem], by simp [go_sem], by simp [go_sem], fun j => by simp [go_sem], by simp⟩
    have bx1 : Below X0.heap.size X0 w1 := ⟨hw1.os, hw1.tape, hw1.output, hw1.size, hw1.block⟩
    have FR1 : FW (w1.alloc (.cells #[.int .i64 a, .int .i64 b, .int .i64 c, .slice (some ⟨g, 0, none⟩) n k] 25)) w.heap.size 0 0 0 (.slice none 0 0) := (HF0.out.later bx1).later (by repeat (first | (with_reducible exact Below.refl _ _) | (with_reducible refine Below.setCell ?_ ?_ _) | (with_reducible refine Below.drew ?_) | (with_reducible refine Below.alloc ?_ ?_ _) | omega | (simp <;> omega)))
    have LB1 : LBox (w1.alloc (.cells #[.int .i64 a, .int .i64 b, .int .i64 c, .slice (some ⟨g, 0, none⟩) n k] 25)) g L := HBX.out.later (by repeat (first | (with_reducible exact Below.refl _ _) | (with_reducible refine Below.setCell ?_ ?_ _) | (with_reducible refine Below.drew ?_) | (with_reducible refine Below.alloc ?_ ?_ _) | omega | (simp <;> omega)))
    have q4 : (w1.alloc (.cells #[.int .i64 a, .int .i64 b, .int .i64 c, .slice (some ⟨g, 0, none⟩) n k] 25)).cell? ⟨B, 4, none⟩ = some (.slice (some ⟨gm, 0, none⟩) n km) := held_below (W := X0) (by repeat (first | (with_reducible exact Below.refl _ _) | (with_reducible refine Below.setCell ?_ ?_ _) | (with_reducible refine Below.drew ?_) | (with_reducible refine Below.alloc ?_ ?_ _) | (with_reducible refine Below.trans ?_ (Below.mono bx1 ?_)) | (with_reducible exact bx1.size) | omega | (simp <;> omega) | (simp <;> (have s := bx1.size; omega)) | (have s0 := bx1.size; (try simp at s0); (try simp); omega))) y4
    have bW : Below w.heap.size w (w1.alloc (.cells #[.int .i64 a, .int .i64 b, .int .i64 c, .slice (some ⟨g, 0, none⟩) n k] 25)) := by repeat (first | (with_reducible exact Below.refl _ _) | (with_reducible refine Below.setCell ?_ ?_ _) | (with_reducible refine Below.drew ?_) | (with_reducible refine Below.alloc ?_ ?_ _) | (with_reducible refine Below.trans ?_ (Below.mono bx1 ?_)) | (with_reducible refine Below.trans ?_ (Below.mono b0 ?_)) | (with_reducible exact bx1.size) | (with_reducible exact b0.size) | omega | (simp <;> omega) | (simp <;> (have s := bx1.size; omega)) | (simp <;> (have s := b0.size; omega)) | (have s0 := bx1.size; (try simp at s0); have s1 := b0.size; (try simp at s1); (try simp); omega))
    have ls1 : X0.heap.size ≤ w1.heap.size := bx1.size
    have hnG : w1.heap.size ≠ w.heap.size := by have := HX0.out; omega
    have HGw := Lib.hid (show w.heap.size + 1 ≤ g from Nat.le_trans (by have := HX0.out; show w.heap.size + 1 ≤ X0.heap.size; omega) hg)
    generalize w1.alloc (.cells #[.int .i64 a, .int .i64 b, .int .i64 c, .slice (some ⟨g, 0, none⟩) n k] 25) = W at *
    generalize w1.heap.size = G at *
    have FG := Lib.hid FW1
    have FR := Lib.hid FR1
    have LB := Lib.hid LB1
    obtain ⟨g0, g1, g2, g3, gf, gl'⟩ := FW1
    obtain ⟨r0, r1, r2, r3, rf, rl⟩ := FR1
    have hBw : B ≠ w.heap.size := by omega
    have HNE := Lib.hid (show (some g : Option Nat) ≠ some w.heap.size from fun h => by have h1 := HGw.out; have h2 := Option.some.inj h; omega)
    have GS := grown_setCells w.heap.size [.int .i64 a, .int .i64 b, .int .i64 c, .slice (some ⟨g, 0, none⟩) n k] 0 W
    clear hw1 hc1 HBX LB1 c1 HL y0 y1 y2 yl y4 HF0 GS
    go_wp2
    go_region
    all_goals
      go_wp2
      refine bodyPost_ret (v := .tuple #[.agg #[.int .i64 a, .int .i64 b, .int .i64 c, .slice (some ⟨g, 0, none⟩) n k], .slice (some ⟨gm, 0, none⟩) n km, .int .i64 0]) (by simp [results, Try.results61, go_sem, r0, r1, r2, r3, rf, rl]) rfl ⟨⟨g, k, rfl, ?_, Nat.le_of_succ_le HGw.out⟩, ?_⟩
      · exact (LB.out.grown (grown_setCells w.heap.size [.int .i64 a, .int .i64 b, .int .i64 c, .slice (some ⟨g, 0, none⟩) n k] 0 W) HNE.out).later (Below.drew (Below.refl _ _))
      · repeat (first | (with_reducible exact Below.refl _ _) | (with_reducible refine Below.setCell ?_ ?_ _) | (with_reducible refine Below.drew ?_) | (with_reducible refine Below.alloc ?_ ?_ _) | (with_reducible refine Below.trans ?_ (Below.mono bW ?_)) | (with_reducible exact bW.size) | omega | (simp <;> omega) | (simp <;> (have s := bW.size; omega)) | (have s0 := bW.size; (try simp at s0); (try simp); omega))
  · have u0 : w1.cell? ⟨X0.heap.size, 0, none⟩ = some (.int .i64 0) := (hw1.cell (p := ⟨X0.heap.size, 0, none⟩) (by simp)).trans (by simp [go_sem])
    have u1 : w1.cell? ⟨X0.heap.size, 1, none⟩ = some (.int .i64 0) := (hw1.cell (p := ⟨X0.heap.size, 1, none⟩) (by simp)).trans (by simp [go_sem])
    have u2 : w1.cell? ⟨X0.heap.size, 2, none⟩ = some (.int .i64 0) := (hw1.cell (p := ⟨X0.heap.size, 2, none⟩) (by simp)).trans (by simp [go_sem])
    have u3 : w1.cell? ⟨X0.heap.size, 3, none⟩ = some (.slice none 0 0) := (hw1.cell (p := ⟨X0.heap.size, 3, none⟩) (by simp)).trans (by simp [go_sem])
    have uf : ∀ j, w1.frozen? ⟨X0.heap.size, j, none⟩ = false := fun j => (hw1.frozen (p := ⟨X0.heap.size, j, none⟩) (by simp)).trans (by simp [go_sem])
    have ul : X0.heap.size < w1.heap.size := World.block_lt_of_cell? w1 _ u0
    have FW1 : FW ((((w1.setCell ⟨X0.heap.size, 0, none⟩ (.int .i64 a)).setCell ⟨X0.heap.size, 1, none⟩ (.int .i64 b)).setCell ⟨X0.heap.size, 2, none⟩ (.int .i64 c)).setCell ⟨X0.heap.size, 3, none⟩ (.slice (some ⟨g, 0, none⟩) n k)) X0.heap.size a b c (.slice (some ⟨g, 0, none⟩) n k) := ⟨by simp [go_sem, u0, u1, u2, u3], by simp [go_sem, u0, u1, u2, u3], by simp [go_sem, u0, u1, u2, u3], by simp [go_sem, u0, u1, u2, u3], fun j => by simp [go_sem, uf], by simpa [World.setCell] using ul⟩
    have bx1 : Below X0.heap.size X0 w1 := by repeat (first | (with_reducible exact Below.refl _ _) | (with_reducible refine Below.setCell ?_ ?_ _) | (with_reducible refine Below.drew ?_) | (with_reducible refine Below.alloc ?_ ?_ _) | (with_reducible refine Below.trans ?_ (Below.mono hw1 ?_)) | (with_reducible exact hw1.size) | omega | (simp <;> omega) | (simp <;> (have s := hw1.size; omega)) | (have s0 := hw1.size; (try simp at s0); (try simp); omega))
    have Gs := grown_setCells X0.heap.size [.int .i64 a, .int .i64 b, .int .i64 c, .slice (some ⟨g, 0, none⟩) n k] 0 w1
    have hx0 := HX0.out
    have FR1 : FW ((((w1.setCell ⟨X0.heap.size, 0, none⟩ (.int .i64 a)).setCell ⟨X0.heap.size, 1, none⟩ (.int .i64 b)).setCell ⟨X0.heap.size, 2, none⟩ (.int .i64 c)).setCell ⟨X0.heap.size, 3, none⟩ (.slice (some ⟨g, 0, none⟩) n k)) w.heap.size 0 0 0 (.slice none 0 0) := (HF0.out.later bx1).grown Gs (by simp; omega)
    have hg' : X0.heap.size + 1 ≤ g := by simpa using hg
    have LB1 : LBox ((((w1.setCell ⟨X0.heap.size, 0, none⟩ (.int .i64 a)).setCell ⟨X0.heap.size, 1, none⟩ (.int .i64 b)).setCell ⟨X0.heap.size, 2, none⟩ (.int .i64 c)).setCell ⟨X0.heap.size, 3, none⟩ (.slice (some ⟨g, 0, none⟩) n k)) g L := HBX.out.grown Gs (by simp; omega)
    have bW : Below w.heap.size w ((((w1.setCell ⟨X0.heap.size, 0, none⟩ (.int .i64 a)).setCell ⟨X0.heap.size, 1, none⟩ (.int .i64 b)).setCell ⟨X0.heap.size, 2, none⟩ (.int .i64 c)).setCell ⟨X0.heap.size, 3, none⟩ (.slice (some ⟨g, 0, none⟩) n k)) := by repeat (first | (with_reducible exact Below.refl _ _) | (with_reducible refine Below.setCell ?_ ?_ _) | (with_reducible refine Below.drew ?_) | (with_reducible refine Below.alloc ?_ ?_ _) | (with_reducible refine Below.trans ?_ (Below.mono bx1 ?_)) | (with_reducible refine Below.trans ?_ (Below.mono b0 ?_)) | (with_reducible exact bx1.size) | (with_reducible exact b0.size) | omega | (simp <;> omega) | (simp <;> (have s := bx1.size; omega)) | (simp <;> (have s := b0.size; omega)) | (have s0 := bx1.size; (try simp at s0); have s1 := b0.size; (try simp at s1); (try simp); omega))
    have bX : Below X0.heap.size X0 ((((w1.setCell ⟨X0.heap.size, 0, none⟩ (.int .i64 a)).setCell ⟨X0.heap.size, 1, none⟩ (.int .i64 b)).setCell ⟨X0.heap.size, 2, none⟩ (.int .i64 c)).setCell ⟨X0.heap.size, 3, none⟩ (.slice (some ⟨g, 0, none⟩) n k)) := by repeat (first | (with_reducible exact Below.refl _ _) | (with_reducible refine Below.setCell ?_ ?_ _) | (with_reducible refine Below.drew ?_) | (with_reducible refine Below.alloc ?_ ?_ _) | (with_reducible refine Below.trans ?_ (Below.mono bx1 ?_)) | (with_reducible exact bx1.size) | omega | (simp <;> omega) | (simp <;> (have s := bx1.size; omega)) | (have s0 := bx1.size; (try simp at s0); (try simp); omega))
    have q4 : ((((w1.setCell ⟨X0.heap.size, 0, none⟩ (.int .i64 a)).setCell ⟨X0.heap.size, 1, none⟩ (.int .i64 b)).setCell ⟨X0.heap.size, 2, none⟩ (.int .i64 c)).setCell ⟨X0.heap.size, 3, none⟩ (.slice (some ⟨g, 0, none⟩) n k)).cell? ⟨B, 4, none⟩ = some (.slice (some ⟨gm, 0, none⟩) n km) := held_below (W := X0) bX y4
    have hnG : X0.heap.size ≠ w.heap.size := by omega
    have HGw := Lib.hid (show w.heap.size + 1 ≤ g by omega)
    clear u0 u1 u2 u3 uf ul Gs bX hx0
    generalize (((w1.setCell ⟨X0.heap.size, 0, none⟩ (.int .i64 a)).setCell ⟨X0.heap.size, 1, none⟩ (.int .i64 b)).setCell ⟨X0.heap.size, 2, none⟩ (.int .i64 c)).setCell ⟨X0.heap.size, 3, none⟩ (.slice (some ⟨g, 0, none⟩) n k) = W at *
    generalize X0.heap.size = G at *
    have FG := Lib.hid FW1
    have FR := Lib.hid FR1
    have LB := Lib.hid LB1
    obtain ⟨g0, g1, g2, g3, gf, gl'⟩ := FW1
    obtain ⟨r0, r1, r2, r3, rf, rl⟩ := FR1
    have hBw : B ≠ w.heap.size := by omega
    have HNE := Lib.hid (show (some g : Option Nat) ≠ some w.heap.size from fun h => by have h1 := HGw.out; have h2 := Option.some.inj h; omega)
    have GS := grown_setCells w.heap.size [.int .i64 a, .int .i64 b, .int .i64 c, .slice (some ⟨g, 0, none⟩) n k] 0 W
    clear hw1 hc1 HBX LB1 c1 HL y0 y1 y2 yl y4 HF0 GS
    go_wp2
    go_region
    all_goals
      go_wp2
      refine bodyPost_ret (v := .tuple #[.agg #[.int .i64 a, .int .i64 b, .int .i64 c, .slice (some ⟨g, 0, none⟩) n k], .slice (some ⟨gm, 0, none⟩) n km, .int .i64 0]) (by simp [results, Try.results61, go_sem, r0, r1, r2, r3, rf, rl]) rfl ⟨⟨g, k, rfl, ?_, Nat.le_of_succ_le HGw.out⟩, ?_⟩
      · exact (LB.out.grown (grown_setCells w.heap.size [.int .i64 a, .int .i64 b, .int .i64 c, .slice (some ⟨g, 0, none⟩) n k] 0 W) HNE.out).later (Below.drew (Below.refl _ _))
      · repeat (first | (with_reducible exact Below.refl _ _) | (with_reducible refine Below.setCell ?_ ?_ _) | (with_reducible refine Below.drew ?_) | (with_reducible refine Below.alloc ?_ ?_ _) | (with_reducible refine Below.trans ?_ (Below.mono bW ?_)) | (with_reducible exact bW.size) | omega | (simp <;> omega) | (simp <;> (have s := bW.size; omega)) | (have s0 := bW.size; (try simp at s0); (try simp); omega))
end Go.Proofs.Ytilbhcjnkmeecaa
