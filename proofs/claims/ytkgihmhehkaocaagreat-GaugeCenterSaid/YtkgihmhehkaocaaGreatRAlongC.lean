/- The unit along a path, as the program makes it.
Conditions: those written at each theorem. -/
import Derived.Test.YtkgihmhehkaocaaGreatRLinkC
import Derived.Test.YtkgihmhehkaocaaGreatRPathA
import Derived.Test.YtkgihmhehkaocaaGreatRRegB
import Derived.Test.YtkgihmhehkaocaaGreatRMid
namespace Go.Proofs.YtkgihmhehkaocaaGreat
set_option linter.unusedVariables false
set_option linter.unusedSimpArgs false
set_option maxRecDepth 1000000
open Go.RowKit
open Um Tm

theorem wl_get (a b c s : Int) (l : List Int) (k : Nat) (hk : k ≤ l.length) : (wl a b c s l)[k]? = some (en a b c s (l.take k)) := by
  induction l generalizing s k with
  | nil => obtain rfl : k = 0 := by simpa using hk
           rfl
  | cons t l ih =>
    cases k with
    | zero => rfl
    | succ k => simp only [wl, List.getElem?_cons_succ, List.take_succ_cons]; exact ih _ k (by simpa using hk)
theorem lies_re {W : World} {b off : Nat} {L : List Q} (h : Lies W b off L) (d : Nat) (os : Array Obj) : Lies (Sort.grow (redrawn W d) os) b off L := fun i x hx => by
  have f := h i x hx
  have g : ∀ a : Addr, ∀ v : Value, W.cell? a = some v → (Sort.grow (redrawn W d) os).cell? a = some v := fun a v hv => by rw [Tail.cell_re W d os a (World.block_lt_of_cell? W a hv)]; exact hv
  exact ⟨g _ _ f.1, g _ _ f.2.1, g _ _ f.2.2.1, g _ _ f.2.2.2.1, g _ _ f.2.2.2.2⟩
theorem Lies.atP {w : World} {b off p : Nat} {L : List Q} (h : Lies w b off L) {x : Q} (hx : L[p]? = some x) : w.cell? ⟨b, off + p * 5, none⟩ = some (.int .i64 x.a) ∧ w.cell? ⟨b, off + p * 5 + 1, none⟩ = some (.int .i64 x.b) ∧ w.cell? ⟨b, off + p * 5 + 2, none⟩ = some (.int .i64 x.c) ∧ w.cell? ⟨b, off + p * 5 + 3, none⟩ = some (.int .i64 x.d) ∧ w.cell? ⟨b, off + p * 5 + 4, none⟩ = some (.int .i64 x.n) := h p x hx

set_option maxHeartbeats 800000 in
theorem passed_any (a b c s t : Int) (bl off cap : Nat) (L : List Q) (w : World) (hF : Fl a b c L) (h0 : 0 ≤ s) (h1 : s < a * b * c) (ht : IsStep t) (hl : Lies w bl off L) : Calls Tryz.prog 76 #[.agg #[.int .i64 a, .int .i64 b, .int .i64 c, .slice (some ⟨bl, off, none⟩) L.length cap], .int .i64 s, .int .i64 (nx a b c s t), .int .i64 t] w fun e w' => e = .returned (.tuple #[.agg #[.int .i64 (up a b c L s t).a, .int .i64 (up a b c L s t).b, .int .i64 (up a b c L s t).c, .int .i64 (up a b c L s t).d, .int .i64 (up a b c L s t).n], .int .i64 0]) ∧ Below w.heap.size w w' := by
  have hp16 := hF.z.p
  have hn := hF.n
  have hnr := nx_rng hF.z s t
  have hi2 := fun h => idx_neg (s := s) hF.z ht h
  unfold up
  by_cases hp : 0 < t
  · rw [if_pos hp]
    obtain ⟨t0, t1, t2⟩ := ht
    obtain ⟨i0, i1⟩ := idx_pos h0 h1 hp t2
    have hx := lk_get (L := L) i0 (by rw [hn]; exact i1)
    obtain ⟨l0, l1, l2, l3, l4⟩ := hl.atP hx
    have i2 : 3 * s + t - 1 < (L.length : Int) := by omega
    have hbl : bl < w.heap.size := World.block_lt_of_cell? w _ l0
    have hp' : ¬ t ≤ 0 := by omega
    have hs16 : s ≤ 16 := by omega
    have e1 : (3 * s + t - 1).toNat = (3 * s + t).toNat - 1 := by omega
    rw [e1] at l0 l1 l2 l3 l4
    generalize lk L (3 * s + t - 1) = x at *
    clear hx hi2 hnr i1 hl hn hF e1
    generalize nx a b c s t = s2 at *
    go_enter Tryz.func76, Tryz.ntmps76
    go_wp2
    refine bodyPost_ret (v := .tuple #[.agg #[.int .i64 x.a, .int .i64 x.b, .int .i64 x.c, .int .i64 x.d, .int .i64 x.n], .int .i64 0]) ?_ rfl ⟨rfl, ?_⟩
    · simp [results, Tryz.results76, go_sem]
    · repeat (first | (with_reducible exact Below.refl _ _) | (with_reducible refine Below.setCell ?_ ?_ _) | (with_reducible refine Below.drew ?_) | (with_reducible refine Below.alloc ?_ ?_ _) | omega | (simp <;> omega))
  · rw [if_neg hp]
    obtain ⟨i0, i1⟩ := hi2 hp
    obtain ⟨t0, t1, t2⟩ := ht
    have hx := lk_get (L := L) i0 (by rw [hn]; exact i1)
    have hV := (hF.lk i0 i1).1
    obtain ⟨l0, l1, l2, l3, l4⟩ := hl.atP hx
    have i2 : 3 * nx a b c s t - t - 1 < (L.length : Int) := by omega
    have hbl : bl < w.heap.size := World.block_lt_of_cell? w _ l0
    have hp' : t ≤ 0 := by omega
    have hs16 : nx a b c s t ≤ 16 := by omega
    have hs0 := hnr.1
    have e1 : (3 * nx a b c s t - t - 1).toNat = (3 * nx a b c s t - t).toNat - 1 := by omega
    rw [e1] at l0 l1 l2 l3 l4
    generalize lk L (3 * nx a b c s t - t - 1) = x at *
    clear hx hi2 hnr i1 hl hn hF e1
    generalize nx a b c s t = s2 at *
    have c1 := fun W : World => inv_ok x W hV
    clear hV
    go_enter Tryz.func76, Tryz.ntmps76
    go_wp2_with ((with_reducible refine (c1 _).mono ?_); rintro e w1 ⟨rfl, hw1⟩; have hc1 := Tail.cells hw1; have zw10 := Nat.lt_of_lt_of_le (n := w.heap.size) (by simp <;> omega) hw1.size; have zw11 := Nat.lt_of_lt_of_le (n := w.heap.size + 1) (by simp <;> omega) hw1.size)
    refine bodyPost_ret (v := .tuple #[.agg #[.int .i64 (bar x).a, .int .i64 (bar x).b, .int .i64 (bar x).c, .int .i64 (bar x).d, .int .i64 (bar x).n], .int .i64 0]) ?_ rfl ⟨rfl, ?_⟩
    · simp [results, Tryz.results76, go_sem, hc1, zw10, zw11]
    · repeat (first | (with_reducible exact Below.refl _ _) | (with_reducible refine Below.setCell ?_ ?_ _) | (with_reducible refine Below.drew ?_) | (with_reducible refine Below.alloc ?_ ?_ _) | (with_reducible refine Below.trans ?_ (Below.mono hw1 ?_)) | (with_reducible exact hw1.size) | omega | (simp <;> omega) | (simp <;> (have s := hw1.size; omega)) | (have s0 := hw1.size; (try simp at s0); (try simp); omega))

theorem walkS_any (a b c s : Int) (ao : Option Addr) (cap : Nat) (l : List Int) (w : World) (hz : Sz a b c) (h0 : 0 ≤ s) (h1 : s < a * b * c) (h : LiesOI w ao l) (hs : ∀ t ∈ l, IsStep t) (h8 : l.length ≤ 8) : Calls Tryz.prog 75 #[.agg #[.int .i64 a, .int .i64 b, .int .i64 c], .int .i64 s, .slice ao l.length cap] w fun e w' => ∃ gb go k, e = .returned (.slice (some ⟨gb, go, none⟩) (l.length + 1) k) ∧ LiesI w' gb go (wl a b c s l) ∧ Below w.heap.size w w' :=
  (walk_any a b c s ao cap l w hz h0 h1 h hs h8).mono fun e w' ⟨ao', k, he, hl, hb⟩ => by
    have hlen := wl_len a b c s l
    rcases hl with hl | ⟨gb, go, hao, hl⟩
    · rw [hl] at hlen; simp at hlen
    · exact ⟨gb, go, k, by rw [he, hao, hlen], hl, hb⟩

theorem owned_lt {w : World} {base : Nat} {T : TypeId} {size n m g cap : Nat} {xs : List Value} (h : w.ownsRow base T size (.slice (some ⟨g, 0, none⟩) n cap) m xs) : g < w.heap.size := by
  rcases h.2 with ⟨h', _⟩ | ⟨g', cap', cur, h', hb, hg, _⟩
  · simp at h'
  · simp only [Value.slice.injEq, Option.some.injEq, Addr.mk.injEq, and_true, true_and] at h'
    obtain ⟨rfl, -⟩ := h'
    exact (Array.getElem?_eq_some_iff.1 hg).1

set_option maxHeartbeats 3200000 in
theorem along_some (a b c s : Int) (bl off cap pb po pc : Nat) (L : List Q) (l : List Int) (w : World) (hF : Fl a b c L) (h0 : 0 ≤ s) (h1 : s < a * b * c) (hl : Lies w bl off L) (hp : LiesI w pb po l) (hs : ∀ t ∈ l, IsStep t) (h8 : l.length ≤ 8) (hpos : 0 < l.length) : Calls Tryz.prog 41 #[.agg #[.int .i64 a, .int .i64 b, .int .i64 c, .slice (some ⟨bl, off, none⟩) L.length cap], .int .i64 s, .slice (some ⟨pb, po, none⟩) l.length pc] w fun e w' => e = .returned (.tuple #[.agg #[.int .i64 (al a b c L s l).a, .int .i64 (al a b c L s l).b, .int .i64 (al a b c L s l).c, .int .i64 (al a b c L s l).d, .int .i64 (al a b c L s l).n], .int .i64 0]) ∧ Below w.heap.size w w' := by
  have cW : ∀ W : World, LiesI W pb po l → Calls Tryz.prog 75 #[.agg #[.int .i64 a, .int .i64 b, .int .i64 c], .int .i64 s, .slice (some ⟨pb, po, none⟩) l.length pc] W fun e w' => ∃ gb go k, e = .returned (.slice (some ⟨gb, go, none⟩) (l.length + 1) k) ∧ LiesI w' gb go (wl a b c s l) ∧ Below W.heap.size W w' := fun W h => walkS_any a b c s _ pc l W hF.z h0 h1 (.inr ⟨pb, po, rfl, h⟩) hs h8
  have cP : ∀ (k : Nat) (t : Int) (W : World), l[k]? = some t → Lies W bl off L → Calls Tryz.prog 76 #[.agg #[.int .i64 a, .int .i64 b, .int .i64 c, .slice (some ⟨bl, off, none⟩) L.length cap], .int .i64 (en a b c s (l.take k)), .int .i64 (en a b c s (l.take (k + 1))), .int .i64 t] W fun e w' => e = .returned (.tuple #[.agg #[.int .i64 (up a b c L (en a b c s (l.take k)) t).a, .int .i64 (up a b c L (en a b c s (l.take k)) t).b, .int .i64 (up a b c L (en a b c s (l.take k)) t).c, .int .i64 (up a b c L (en a b c s (l.take k)) t).d, .int .i64 (up a b c L (en a b c s (l.take k)) t).n], .int .i64 0]) ∧ Below W.heap.size W w' := fun k t W ht h => by
    have hk := (List.getElem?_eq_some_iff.1 ht).1
    have he := (List.getElem?_eq_some_iff.1 ht).2
    have hen := en_rng hF.z h0 h1 (l.take k)
    rw [en_take a b c s l k hk, he]
    exact passed_any a b c _ t bl off cap L W hF hen.1 hen.2 (hs t (he ▸ List.getElem_mem hk)) h
  have HU : Hid (∀ (k : Nat) (t : Int), l[k]? = some t → (ups a b c L s (l.take (k + 1))).flatMap uc = (ups a b c L s (l.take k)).flatMap uc ++ uc (up a b c L (en a b c s (l.take k)) t)) := Lib.hid (fun k t ht => by
    have hk := (List.getElem?_eq_some_iff.1 ht).1
    have he := (List.getElem?_eq_some_iff.1 ht).2
    rw [ups_take a b c L s l k hk, he, List.flatMap_append]
    simp)
  have hal := hF.al s l h0 h1 hs h8
  have hVs : ∀ x ∈ ups a b c L s l, V x := fun x hx => (hF.ups s l h0 h1 hs x hx).1
  have hul := ups_len a b c L s l
  have cQ : ∀ (g cp : Nat) (W : World), Lies W g 0 (ups a b c L s l) → Calls Tryz.prog 65 #[.slice (some ⟨g, 0, none⟩) l.length cp] W fun e w' => e = .returned (.tuple #[.agg #[.int .i64 (al a b c L s l).a, .int .i64 (al a b c L s l).b, .int .i64 (al a b c L s l).c, .int .i64 (al a b c L s l).d, .int .i64 (al a b c L s l).n], .int .i64 0]) ∧ Below W.heap.size W w' := fun g cp W h => by
    have := quatProduct_some g 0 cp (ups a b c L s l) _ _ W h hVs (by omega) hal.1
    rwa [hul] at this
  obtain ⟨i0, hi, hz0, hz1, hz2⟩ := info_parts infoU
  have hlen2 : l.length ≤ maxLen := by unfold maxLen; omega
  have hlen3 : i0.bytes * l.length ≤ 281474976710656 := by rw [hz2]; omega
  have HL := Lib.hid hl
  have HP := Lib.hid hp
  have HWL := Lib.hid (wl_get a b c s l)
  have HUL := Lib.hid hul
  have HAL : ∃ r, r = al a b c L s l := ⟨_, rfl⟩
  obtain ⟨r, hr⟩ := HAL
  rw [← hr] at cQ
  have HR := Lib.hid hr
  clear hF h0 h1 hl hp hs hal hVs hul hr
  have hup : ∃ UP : Nat → Int → Q, UP = fun k t => up a b c L (en a b c s (l.take k)) t := ⟨_, rfl⟩
  obtain ⟨UP, hUP⟩ := hup
  have hEN : ∃ EN : Nat → Int, EN = fun k => en a b c s (l.take k) := ⟨_, rfl⟩
  obtain ⟨EN, hEN⟩ := hEN
  have hCS : ∃ CS : Nat → List Value, CS = fun k => (ups a b c L s (l.take k)).flatMap uc := ⟨_, rfl⟩
  obtain ⟨CS, hCS⟩ := hCS
  have cP' : ∀ (k : Nat) (t : Int) (W : World), l[k]? = some t → Lies W bl off L → Calls Tryz.prog 76 #[.agg #[.int .i64 a, .int .i64 b, .int .i64 c, .slice (some ⟨bl, off, none⟩) L.length cap], .int .i64 (EN k), .int .i64 (EN (k + 1)), .int .i64 t] W fun e w' => e = .returned (.tuple #[.agg #[.int .i64 (UP k t).a, .int .i64 (UP k t).b, .int .i64 (UP k t).c, .int .i64 (UP k t).d, .int .i64 (UP k t).n], .int .i64 0]) ∧ Below W.heap.size W w' := by rw [hUP, hEN]; exact cP
  have HU' : Hid (∀ (k : Nat) (t : Int), l[k]? = some t → CS (k + 1) = CS k ++ uc (UP k t)) := Lib.hid (by rw [hUP, hCS]; exact HU.out)
  have HWL' : Hid (∀ k, k ≤ l.length → (wl a b c s l)[k]? = some (EN k)) := Lib.hid (by rw [hEN]; exact HWL.out)
  have HC0 : Hid (CS 0 = []) := Lib.hid (by rw [hCS]; rfl)
  have HCE : Hid (CS l.length = (ups a b c L s l).flatMap uc) := Lib.hid (by rw [hCS]; simp)
  have HM : ∃ M, M = ups a b c L s l := ⟨_, rfl⟩
  obtain ⟨M, hM⟩ := HM
  have HWW : ∃ WW, WW = wl a b c s l := ⟨_, rfl⟩
  obtain ⟨WW, hWW⟩ := HWW
  rw [← hM] at cQ HUL HCE
  rw [← hWW] at cW HWL'
  clear cP HU HWL hUP hEN hCS hM hWW
  go_enter Tryz.func41, Tryz.ntmps41
  go_wp2_with (first | ((with_reducible refine (cW _ (HP.out.later (by repeat (first | (with_reducible exact Below.refl _ _) | (with_reducible refine Below.setCell ?_ ?_ _) | (with_reducible refine Below.drew ?_) | (with_reducible refine Below.alloc ?_ ?_ _) | omega | (simp <;> omega))))).mono ?_); clear cW; rintro e w1 ⟨gb, go, k1, rfl, hW, hw1⟩; have HW := Lib.hid hW; clear hW; have s1 := hw1.size; simp at s1) | (at_make; refine wpList_make_own _ rfl _ _ 23 rfl w1.heap.size 55 i0 _ 5 Tryz.underlying23 hi hz0 hz1 _ _ _ l.length rfl rfl rfl hlen3 hlen2 (Nat.le_refl _) ?_; intro w2 hown hgrow))
  have fB1 := (⟨by simp [go_sem], by simp [go_sem], by simp [go_sem], by simp [go_sem], by simp <;> omega⟩ : FBox ((w.alloc (.cells #[.int .i64 a, .int .i64 b, .int .i64 c, .slice (some ⟨bl, off, none⟩) L.length cap] 25)).alloc (.cells #[.int .i64 0, .int .i64 0, .int .i64 0, .int .i64 0, .int .i64 0] 55)) w.heap.size a b c (.slice (some ⟨bl, off, none⟩) L.length cap)).later hw1
  have rB1 := (⟨by simp [go_sem, zero], by simp [go_sem, zero], by simp [go_sem, zero], by simp [go_sem, zero], by simp [go_sem, zero], fun j => by simp [go_sem], by simp⟩ : UBox ((w.alloc (.cells #[.int .i64 a, .int .i64 b, .int .i64 c, .slice (some ⟨bl, off, none⟩) L.length cap] 25)).alloc (.cells #[.int .i64 0, .int .i64 0, .int .i64 0, .int .i64 0, .int .i64 0] 55)) (w.heap.size + 1) zero).later hw1
  have hb1 : Below w.heap.size w w1 := by repeat (first | (with_reducible exact Below.refl _ _) | (with_reducible refine Below.setCell ?_ ?_ _) | (with_reducible refine Below.drew ?_) | (with_reducible refine Below.alloc ?_ ?_ _) | (with_reducible refine Below.trans ?_ (Below.mono hw1 ?_)) | (with_reducible exact hw1.size) | omega | (simp <;> omega) | (simp <;> (have s := hw1.size; omega)) | (have s0 := hw1.size; (try simp at s0); (try simp); omega))
  have fB2 := fB1.grown hgrow (by simp)
  have rB2 := rB1.grown hgrow (by simp)
  have hb2 : Below w.heap.size w w2 := hb1.grown hgrow (by omega) (by simp)
  have s2 := hgrow.size
  have W2 : LiesI w2 gb go WW := fun i x hx => hgrow.cell (HW.out i x hx) (by simp)
  have HW2 := Lib.hid W2
  have hgw : w.heap.size + 2 ≤ w1.heap.size := by omega
  have hgb : gb < w1.heap.size := World.block_lt_of_cell? w1 _ (HW.out 0 _ (HWL'.out 0 (Nat.zero_le _)))
  rw [← HC0.out] at hown
  clear hw1 fB1 rB1 hb1 hgrow W2 HW s1
  generalize w1.heap.size = g at *
  go_loopw [9, 10, 11, 12, 13, 24] (fun f _ _ _ _ q wr => ∃ k : Nat, k ≤ l.length ∧ q = .int .i64 k ∧ f = .slice (some ⟨g, 0, none⟩) k l.length ∧ Hid (wr.ownsRow g 55 5 (.slice (some ⟨g, 0, none⟩) k l.length) k (CS k)) ∧ Hid (LiesI wr gb go WW) ∧ FBox wr w.heap.size a b c (.slice (some ⟨bl, off, none⟩) L.length cap) ∧ UBox wr (w.heap.size + 1) zero ∧ Below w.heap.size w wr ∧ g ≤ wr.heap.size) (fun _ _ _ _ _ q _ => l.length - (intOf q).toNat)
  case atStart => exact ⟨0, by omega, rfl, rfl, Lib.hid hown, HW2, fB2, rB2, hb2, s2⟩
  case round =>
    obtain ⟨k, hk, rfl, rfl, hown1, hw4, fb, rb, hb, hgs⟩ := hrel
    clear hown HW2 fB2 rB2 hb2 s2
    have FB := Lib.hid fb
    have RB := Lib.hid rb
    have hbs := hb.size
    by_cases hlt : k < l.length
    · have i1 : (k : Int) < (l.length : Int) := by omega
      have hx : l[k]? = some l[k] := List.getElem?_eq_getElem hlt
      have p0 := HP.out.later hb k _ hx
      have q0 := hw4.out k _ (HWL'.out k hk)
      have q1 := hw4.out (k + 1) _ (HWL'.out (k + 1) hlt)
      have i2 : (k : Int) < ((l.length + 1 : Nat) : Int) := by omega
      have i3 : (k : Int) + 1 < ((l.length + 1 : Nat) : Int) := by omega
      have lb0 : pb < wr.heap.size := World.block_lt_of_cell? wr _ p0
      have lb1 : gb < wr.heap.size := World.block_lt_of_cell? wr _ q0
      have LL := HL.out.later hb
      have cPk := fun W h => cP' k _ W hx h
      have hcs := HU'.out k _ hx
      generalize l[k] = t at *
      have HCS := Lib.hid hcs
      clear hx hcs rb
      obtain ⟨f0, f1, f2, f3, fl⟩ := fb
      generalize UP k t = y at *
      go_wp2
      apply Mid.region_mids 14 [.inr (.int .i64 0), .inl (.cells #[.int .i64 0, .int .i64 0, .int .i64 0, .int .i64 0, .int .i64 0] 55)] [] (by kernel_rfl) (by kernel_rfl) (by simp) (by simp [Mid.lates]) (by kernel_rfl) (by kernel_rfl) (fun c a d v w h => by cases d <;> exact h)
      · intro B hB
        have kc := @Tail.cell_re
        have hcB := Tail.cells hB
        have zB0 := Nat.lt_of_lt_of_le lb0 hB.size
        have zB1 := Nat.lt_of_lt_of_le lb1 hB.size
        have zB2 := Nat.lt_of_lt_of_le fl hB.size
        have LB := LL.later hB
        simp only [List.take_succ_cons, List.take_zero]
        repeat (go_big_quiet_step (first | (with_reducible exact Calls.regrown_of (cPk _ (lies_re LB _ _)))))
        exact wpQuiet_nil rfl
      · intro w1 hw1
        refine ⟨_, rfl, .inl ⟨rfl, fun W => by simp [go_sem]⟩, _, rfl, fun a W => ⟨rfl, by simp [go_sem]⟩, fun cc w3 _ hcb hw3' hx3 => ?_⟩
        have hw3 : Below wr.heap.size wr w3 := hw1.trans (hw3'.mono hw1.size)
        clear hw1 hw3'
        show wpList _ _ _ (List.drop 16 _) _ _
        simp only [List.drop_succ_cons, List.drop_zero]
        have k0 := Wide.cell_at hx3 0 _ rfl
        have k1 := Wide.cell_at hx3 1 _ rfl
        have k2 := Wide.cell_at hx3 2 _ rfl
        have k3 := Wide.cell_at hx3 3 _ rfl
        have k4 := Wide.cell_at hx3 4 _ rfl
        have fz := Wide.free_at hx3
        have zc : cc < w3.heap.size := World.block_lt_of_cell? w3 _ k0
        have O3 := owned_later hown1.out hw3
        have HO3 := Lib.hid O3
        have hcg : wr.heap.size ≤ cc := hcb
        have G1 := grown_setCells cc (uc y) 0 w3
        have hgl := owned_lt O3
        have hgw3 := owned_lt hown1.out
        have O4 : ((((((w3.setCell ⟨cc, 0, none⟩ (.int .i64 y.a)).setCell ⟨cc, 1, none⟩ (.int .i64 y.b)).setCell ⟨cc, 2, none⟩ (.int .i64 y.c)).setCell ⟨cc, 3, none⟩ (.int .i64 y.d)).setCell ⟨cc, 4, none⟩ (.int .i64 y.n)).alloc (.cells #[.int .i64 y.a, .int .i64 y.b, .int .i64 y.c, .int .i64 y.d, .int .i64 y.n] 55)).ownsRow g 55 5 (.slice (some ⟨g, 0, none⟩) k l.length) k (CS k) := (O3.kept G1 (.inr (by simp [Value.ownBlock]; omega))).alloc _
        have HO4 := Lib.hid O4
        clear hx3 O3 O4 hown1 f0 f1 f2 f3 fl p0 q0 q1 cPk
        go_wp2_with (at_builtin; refine wpList_append_fits _ rfl (.tmp 48) (.tmp 50) 23 rfl g 55 i0 5 Tryz.underlying23 hi hz1 g k l.length (CS k) rfl HO4.out ⟨w3.heap.size, 0, none⟩ 1 1 (uc y) rfl rfl (five_cells rfl (by simp [go_sem]) (by simp [go_sem]) (by simp [go_sem]) (by simp [go_sem]) (by simp [go_sem])) (five_one rfl) (by omega) ?_; intro w5 hown5 hgrow5)
        have hfl := FB.out.lt
        have hrl := RB.out.lt
        have AL : Below (w3.setCells cc 0 (uc y)).heap.size (w3.setCells cc 0 (uc y)) ((w3.setCells cc 0 (uc y)).alloc (.cells #[.int .i64 y.a, .int .i64 y.b, .int .i64 y.c, .int .i64 y.d, .int .i64 y.n] 55)) := (Below.refl _ _).alloc (Nat.le_refl _) _
        have hgrow6 : ((w3.setCells cc 0 (uc y)).alloc (.cells #[.int .i64 y.a, .int .i64 y.b, .int .i64 y.c, .int .i64 y.d, .int .i64 y.n] 55)).grownBy w5 (some g) := hgrow5
        have F5 := (((FB.out.later hw3).grown G1 (by simp; omega)).later AL).grown hgrow6 (by simp; omega)
        have R5 := (((RB.out.later hw3).grown G1 (by simp; omega)).later AL).grown hgrow6 (by simp; omega)
        have W3 := hw4.out.later hw3
        have W4 : LiesI (w3.setCells cc 0 (uc y)) gb go WW := fun i x hx => G1.cell (W3 i x hx) (by simp; omega)
        have W5 := W4.later AL
        have W6 : LiesI w5 gb go WW := fun i x hx => hgrow6.cell (W5 i x hx) (by simp; omega)
        have hb3 : Below w.heap.size w w3 := by repeat (first | (with_reducible exact Below.refl _ _) | (with_reducible refine Below.setCell ?_ ?_ _) | (with_reducible refine Below.drew ?_) | (with_reducible refine Below.alloc ?_ ?_ _) | (with_reducible refine Below.trans ?_ (Below.mono hw3 ?_)) | (with_reducible refine Below.trans ?_ (Below.mono hb ?_)) | (with_reducible exact hw3.size) | (with_reducible exact hb.size) | omega | (simp <;> omega) | (simp <;> (have s := hw3.size; omega)) | (simp <;> (have s := hb.size; omega)) | (have s0 := hw3.size; (try simp at s0); have s1 := hb.size; (try simp at s1); (try simp); omega))
        have hb4 := hb3.grown G1 hb3.size (fun j hj => by simp at hj; omega)
        have hb5 := (hb4.alloc hb4.size (.cells #[.int .i64 y.a, .int .i64 y.b, .int .i64 y.c, .int .i64 y.d, .int .i64 y.n] 55)).grown hgrow6 (by have := hb4.size; simp; omega) (fun j hj => by simp at hj; omega)
        have hs5 := hgrow6.size
        have hs6 := hw3.size
        have hs7 := G1.size
        rw [← HCS.out] at hown5
        simp at hs5
        clear hgrow5 hgrow6 G1 AL W3 W4 W5 hb3 hb4 hw4 FB RB hw3 k0 k1 k2 k3 k4 fz HO4
        exact ⟨⟨k + 1, by omega, by go_num, rfl, Lib.hid hown5, Lib.hid W6, F5, R5, hb5, by omega⟩, by simp [intOf]; omega⟩
    · obtain rfl : k = l.length := by omega
      have hli : Lies wr g 0 M := owned_lies (T := 55) (base := g) (cap := l.length) (by
        have := hown1.out
        rw [HCE.out] at this
        rw [HUL.out]
        exact this)
      have c9 := cQ g l.length wr hli
      clear hown1 hw4 fb rb hli cP'
      go_wp2_with ((with_reducible refine c9.mono ?_); rintro e w3 ⟨rfl, hw3⟩; obtain ⟨d0, d1, d2, d3, d4, df, dl⟩ := RB.out.later hw3)
      refine bodyPost_ret (v := .tuple #[.agg #[.int .i64 r.a, .int .i64 r.b, .int .i64 r.c, .int .i64 r.d, .int .i64 r.n], .int .i64 0]) ?_ rfl ⟨by rw [HR.out], ?_⟩
      · simp [results, Tryz.results41, go_sem, d0, d1, d2, d3, d4]
      · repeat (first | (with_reducible exact Below.refl _ _) | (with_reducible refine Below.setCell ?_ ?_ _) | (with_reducible refine Below.drew ?_) | (with_reducible refine Below.alloc ?_ ?_ _) | (with_reducible refine Below.trans ?_ (Below.mono hw3 ?_)) | (with_reducible refine Below.trans ?_ (Below.mono hb ?_)) | (with_reducible exact hw3.size) | (with_reducible exact hb.size) | omega | (simp <;> omega) | (simp <;> (have s := hw3.size; omega)) | (simp <;> (have s := hb.size; omega)) | (have s0 := hw3.size; (try simp at s0); have s1 := hb.size; (try simp at s1); (try simp); omega))

set_option maxHeartbeats 1600000 in
theorem along_nil (a b c s : Int) (bl off cap pc : Nat) (ao : Option Addr) (L : List Q) (w : World) : Calls Tryz.prog 41 #[.agg #[.int .i64 a, .int .i64 b, .int .i64 c, .slice (some ⟨bl, off, none⟩) L.length cap], .int .i64 s, .slice ao 0 pc] w fun e w' => e = .returned (.tuple #[.agg #[.int .i64 one.a, .int .i64 one.b, .int .i64 one.c, .int .i64 one.d, .int .i64 one.n], .int .i64 0]) ∧ Below w.heap.size w w' := by
  have cW := fun W : World => walk_nil a b c s ao pc W
  have hmk : ∀ W, (Instr.makeSlice 23 (.int .i64 0) (.int .i64 0)).run Tryz.prog W = .ok (.slice (some ⟨W.heap.size, 0, none⟩) 0 0) (W.alloc (.cells #[] 55)) := fun _ => by kernel_rfl
  have cQ := fun (g : Nat) (W : World) => quatProduct_nil (some ⟨g, 0, none⟩) 0 W
  go_enter Tryz.func41, Tryz.ntmps41
  go_wp2_with ((with_reducible refine (cW _).mono ?_); clear cW; rintro e w1 ⟨gb, rfl, hW, hw1⟩; clear hW; have s1 := hw1.size; simp at s1)
  have rB1 := (⟨by simp [go_sem, zero], by simp [go_sem, zero], by simp [go_sem, zero], by simp [go_sem, zero], by simp [go_sem, zero], fun j => by simp [go_sem], by simp⟩ : UBox ((w.alloc (.cells #[.int .i64 a, .int .i64 b, .int .i64 c, .slice (some ⟨bl, off, none⟩) L.length cap] 25)).alloc (.cells #[.int .i64 0, .int .i64 0, .int .i64 0, .int .i64 0, .int .i64 0] 55)) (w.heap.size + 1) zero).later hw1
  have HB := Lib.hid rB1
  clear rB1
  refine wp_loop_rounds 1 ?_
  rw [rounds_succ]
  go_wp2_with ((with_reducible refine (cQ _ _).mono ?_); rintro e w2 ⟨rfl, hw2⟩; obtain ⟨d0, d1, d2, d3, d4, df, dl⟩ := (HB.out.later ((Below.refl _ _).alloc (Nat.le_refl _) _)).later hw2)
  refine bodyPost_ret (v := .tuple #[.agg #[.int .i64 one.a, .int .i64 one.b, .int .i64 one.c, .int .i64 one.d, .int .i64 one.n], .int .i64 0]) ?_ rfl ⟨rfl, ?_⟩
  · simp [results, Tryz.results41, go_sem, d0, d1, d2, d3, d4]
  · repeat (first | (with_reducible exact Below.refl _ _) | (with_reducible refine Below.setCell ?_ ?_ _) | (with_reducible refine Below.drew ?_) | (with_reducible refine Below.alloc ?_ ?_ _) | (with_reducible refine Below.trans ?_ (Below.mono hw2 ?_)) | (with_reducible refine Below.trans ?_ (Below.mono hw1 ?_)) | (with_reducible exact hw2.size) | (with_reducible exact hw1.size) | omega | (simp <;> omega) | (simp <;> (have s := hw2.size; omega)) | (simp <;> (have s := hw1.size; omega)) | (have s0 := hw2.size; (try simp at s0); have s1 := hw1.size; (try simp at s1); (try simp); omega))
/-- The unit along a path of a valid field. -/
theorem along_any (a b c s : Int) (bl off cap pc : Nat) (ao : Option Addr) (L : List Q) (l : List Int) (w : World) (hF : Fl a b c L) (h0 : 0 ≤ s) (h1 : s < a * b * c) (hl : Lies w bl off L) (hp : LiesOI w ao l) (hs : ∀ t ∈ l, IsStep t) (h8 : l.length ≤ 8) : Calls Tryz.prog 41 #[.agg #[.int .i64 a, .int .i64 b, .int .i64 c, .slice (some ⟨bl, off, none⟩) L.length cap], .int .i64 s, .slice ao l.length pc] w fun e w' => e = .returned (.tuple #[.agg #[.int .i64 (al a b c L s l).a, .int .i64 (al a b c L s l).b, .int .i64 (al a b c L s l).c, .int .i64 (al a b c L s l).d, .int .i64 (al a b c L s l).n], .int .i64 0]) ∧ Below w.heap.size w w' := by
  rcases hp with rfl | ⟨pb, po, rfl, hp⟩
  · rw [show al a b c L s [] = one from low_one]
    exact along_nil a b c s bl off cap pc ao L w
  · by_cases hpos : 0 < l.length
    · exact along_some a b c s bl off cap pb po pc L l w hF h0 h1 hl hp hs h8 hpos
    · obtain rfl : l = [] := List.length_eq_zero_iff.1 (by omega)
      rw [show al a b c L s [] = one from low_one]
      exact along_nil a b c s bl off cap pc _ L w

/-- the error of a field, a site and a path -/
def asR (a b c : Int) (L : List Q) (s : Int) (l : List Int) (r : Int) : Prop := (fldR a b c L r ∧ r ≠ 0) ∨ (fldR a b c L 0 ∧ wkR a b c s l r)
theorem asR_ok {a b c : Int} {L : List Q} {s : Int} {l : List Int} (h : asR a b c L s l 0) : Fl a b c L ∧ 0 ≤ s ∧ s < a * b * c ∧ (∀ t ∈ l, IsStep t) ∧ l.length ≤ 8 := by
  rcases h with ⟨_, h⟩ | ⟨hf, h⟩
  · exact absurd rfl h
  · rcases h with ⟨_, h⟩ | ⟨hz, h0, h1, h⟩
    · exact absurd rfl h
    · rcases h with ⟨_, h⟩ | ⟨_, _, h⟩ | ⟨h8, hs, _⟩
      · exact absurd h (by decide)
      · exact absurd h (by decide)
      · exact ⟨fldR_Fl hf, h0, h1, hs, h8⟩
set_option maxHeartbeats 1600000 in
theorem alongO_ok (a b c s : Int) (bl off : Nat) (ao : Option Addr) (cap pc : Nat) (L : List Q) (l : List Int) (w : World) (hl : Lies w bl off L) (hp : LiesOI w ao l) (hr : asR a b c L s l 0) : Calls Tryz.prog 107 #[.agg #[.int .i64 a, .int .i64 b, .int .i64 c, .slice (some ⟨bl, off, none⟩) L.length cap], .int .i64 s, .slice ao l.length pc] w fun e w' => e = .returned (.tuple #[.agg #[.int .i64 (al a b c L s l).a, .int .i64 (al a b c L s l).b, .int .i64 (al a b c L s l).c, .int .i64 (al a b c L s l).d, .int .i64 (al a b c L s l).n], .int .i64 0]) ∧ Below w.heap.size w w' := by
  have H := Lib.hid hl
  have HP := Lib.hid hp
  obtain ⟨hF, h0, h1, hs, h8⟩ := asR_ok hr
  have hlen := fld_len (Fl_fldR hF)
  have c1 := fun (W : World) (h : Lies W bl off L) => validateF_any a b c 0 (some ⟨bl, off, none⟩) cap L W (.inr ⟨bl, off, rfl, h⟩) (Fl_fldR hF) (by omega)
  have c2 := fun (W : World) (h : LiesOI W ao l) => checkWalk_any a b c s 0 ao pc l W h (.inr ⟨hF.z, h0, h1, .inr (.inr ⟨h8, hs, rfl⟩)⟩) (by omega)
  have c3 := fun (W : World) (h : Lies W bl off L) (h2 : LiesOI W ao l) => along_any a b c s bl off cap pc ao L l W hF h0 h1 h h2 hs h8
  clear hl hp hr hF h0 h1 hs h8 hlen
  generalize al a b c L s l = r at *
  go_enter Tryz.func107, Tryz.ntmps107
  go_wp2_with (first | ((with_reducible refine (c1 _ (H.out.later (by repeat (first | (with_reducible exact Below.refl _ _) | (with_reducible refine Below.setCell ?_ ?_ _) | (with_reducible refine Below.drew ?_) | (with_reducible refine Below.alloc ?_ ?_ _) | omega | (simp <;> omega))))).mono ?_); clear c1; rintro e w1 ⟨rfl, hw1⟩; have hc1 := Tail.cells hw1; have zw10 := Nat.lt_of_lt_of_le (n := w.heap.size) (by simp <;> omega) hw1.size; have zw11 := Nat.lt_of_lt_of_le (n := w.heap.size + 1) (by simp <;> omega) hw1.size) | ((with_reducible refine (c2 _ (HP.out.later (by repeat (first | (with_reducible exact Below.refl _ _) | (with_reducible refine Below.setCell ?_ ?_ _) | (with_reducible refine Below.drew ?_) | (with_reducible refine Below.alloc ?_ ?_ _) | (with_reducible refine Below.trans ?_ (Below.mono hw1 ?_)) | (with_reducible exact hw1.size) | omega | (simp <;> omega) | (simp <;> (have s := hw1.size; omega)) | (have s0 := hw1.size; (try simp at s0); (try simp); omega))))).mono ?_); clear c2; rintro e w2 ⟨rfl, hw2⟩; have hc2 := Tail.cells hw2; have z0 := Nat.lt_of_lt_of_le zw10 hw2.size; have z1 := Nat.lt_of_lt_of_le zw11 hw2.size) | ((with_reducible refine (c3 _ (H.out.later (by repeat (first | (with_reducible exact Below.refl _ _) | (with_reducible refine Below.setCell ?_ ?_ _) | (with_reducible refine Below.drew ?_) | (with_reducible refine Below.alloc ?_ ?_ _) | (with_reducible refine Below.trans ?_ (Below.mono hw2 ?_)) | (with_reducible refine Below.trans ?_ (Below.mono hw1 ?_)) | (with_reducible exact hw2.size) | (with_reducible exact hw1.size) | omega | (simp <;> omega) | (simp <;> (have s := hw2.size; omega)) | (simp <;> (have s := hw1.size; omega)) | (have s0 := hw2.size; (try simp at s0); have s1 := hw1.size; (try simp at s1); (try simp); omega)))) (HP.out.later (by repeat (first | (with_reducible exact Below.refl _ _) | (with_reducible refine Below.setCell ?_ ?_ _) | (with_reducible refine Below.drew ?_) | (with_reducible refine Below.alloc ?_ ?_ _) | (with_reducible refine Below.trans ?_ (Below.mono hw2 ?_)) | (with_reducible refine Below.trans ?_ (Below.mono hw1 ?_)) | (with_reducible exact hw2.size) | (with_reducible exact hw1.size) | omega | (simp <;> omega) | (simp <;> (have s := hw2.size; omega)) | (simp <;> (have s := hw1.size; omega)) | (have s0 := hw2.size; (try simp at s0); have s1 := hw1.size; (try simp at s1); (try simp); omega))))).mono ?_); clear c3; rintro e w3 ⟨rfl, hw3⟩; have hc3 := Tail.cells hw3; have y0 := Nat.lt_of_lt_of_le z0 hw3.size; have y1 := Nat.lt_of_lt_of_le z1 hw3.size))
  refine bodyPost_ret (v := .tuple #[.agg #[.int .i64 r.a, .int .i64 r.b, .int .i64 r.c, .int .i64 r.d, .int .i64 r.n], .int .i64 0]) ?_ rfl ⟨rfl, ?_⟩
  · simp [results, Tryz.results107, go_sem, hc1, hc2, hc3, zw10, zw11, z0, z1, y0, y1]
  · repeat (first | (with_reducible exact Below.refl _ _) | (with_reducible refine Below.setCell ?_ ?_ _) | (with_reducible refine Below.drew ?_) | (with_reducible refine Below.alloc ?_ ?_ _) | (with_reducible refine Below.trans ?_ (Below.mono hw3 ?_)) | (with_reducible refine Below.trans ?_ (Below.mono hw2 ?_)) | (with_reducible refine Below.trans ?_ (Below.mono hw1 ?_)) | (with_reducible exact hw3.size) | (with_reducible exact hw2.size) | (with_reducible exact hw1.size) | omega | (simp <;> omega) | (simp <;> (have s := hw3.size; omega)) | (simp <;> (have s := hw2.size; omega)) | (simp <;> (have s := hw1.size; omega)) | (have s0 := hw3.size; (try simp at s0); have s1 := hw2.size; (try simp at s1); have s2 := hw1.size; (try simp at s2); (try simp); omega))
end Go.Proofs.YtkgihmhehkaocaaGreat
