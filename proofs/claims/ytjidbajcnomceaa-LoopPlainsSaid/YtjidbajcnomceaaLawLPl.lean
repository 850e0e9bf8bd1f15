/- LoopPlains: which sums are valid and their plain forms are the document's, for all sums; a plain form shares no memory with what was handed in.
Conditions: none. -/
import Derived.Test.YtjidbajcnomceaaJFacts
import Derived.Test.YtjidbajcnomceaaLooC
import Derived.Test.YtjidbajcnomceaaLoopH
import Derived.Test.YtjidbajcnomceaaLoopCp
namespace Go.Proofs.Ytjidbajcnomceaa
set_option linter.unusedVariables false
set_option linter.unusedSimpArgs false
set_option maxRecDepth 1000000
open Go.ChangeShapes Go.WideShapes Go.ChangeAt Go.RowKit
open Um Tm Lm

/-- n whole numbers lie there, which may be written -/
def Wn (w : World) (B : Nat) (a : Option Addr) (n : Nat) : Prop := n = 0 ∨ ∃ b off, a = some ⟨b, off, none⟩ ∧ B ≤ b ∧ (∀ j, w.frozen? ⟨b, j, none⟩ = false) ∧ ∀ j, j < n → ∃ z, w.cell? ⟨b, off + j, none⟩ = some (.int .i64 z)
/-- terms whose paths may be written -/
structure Wt (w : World) (B : Nat) (rb ro : Nat) (es : List E) : Prop where
  hd : ∀ (i : Nat) (h : i < es.length), w.cell? ⟨rb, ro + i * 2 + 1, none⟩ = some (.slice es[i].a es[i].p.length es[i].k)
  pt : ∀ (i : Nat) (h : i < es.length), Wn w B es[i].a es[i].p.length
theorem Wt.put {w : World} {B rb ro : Nat} {es : List E} (h : Wt w B rb ro es) {b o : Nat} {z : Int} (hc : w.cell? ⟨b, o, none⟩ = some (.int .i64 z)) (hf : w.frozen? ⟨b, o, none⟩ = false) (x : Int) : Wt (w.setCell ⟨b, o, none⟩ (.int .i64 x)) B rb ro es := by
  refine ⟨fun i hi => ?_, fun i hi => ?_⟩
  · have h1 := h.hd i hi
    have hne : (⟨b, o, none⟩ : Addr) ≠ ⟨rb, ro + i * 2 + 1, none⟩ := fun e => by
      rw [← e, hc] at h1
      simp at h1
    rw [World.cell?_setCell_other _ _ _ _ hne]
    exact h1
  · rcases h.pt i hi with h0 | ⟨pb, off, ha, hB, hfr, hz⟩
    · exact .inl h0
    · refine .inr ⟨pb, off, ha, hB, fun j => by rw [World.frozen?_setCell]; exact hfr j, fun j hj => ?_⟩
      by_cases he : (⟨b, o, none⟩ : Addr) = ⟨pb, off + j, none⟩
      · refine ⟨x, ?_⟩
        rw [← he]
        exact World.cell?_setCell_same _ _ _ hc
      · obtain ⟨y, hy⟩ := hz j hj
        exact ⟨y, by rw [World.cell?_setCell_other _ _ _ _ he]; exact hy⟩
theorem Wt.of {w : World} {B rb ro : Nat} {es : List E} (h : RowsAt 2 ec w rb ro es) (hp : EN w B es) : Wt w B rb ro es :=
  ⟨fun i hi => h i _ (List.getElem?_eq_getElem hi) 1 _ rfl, fun i hi => by
    rcases hp _ (List.getElem_mem hi) with h0 | ⟨b, off, ha, hB, hf, hl⟩
    · exact .inl (by rw [h0]; rfl)
    · exact .inr ⟨b, off, ha, hB, hf, fun j hj => ⟨_, hl j _ (List.getElem?_eq_getElem hj)⟩⟩⟩
theorem Wt.later {w w1 : World} {B rb ro : Nat} {es : List E} (h : Wt w B rb ro es) (hb : Below w.heap.size w w1) : Wt w1 B rb ro es :=
  ⟨fun i hi => cell_keep hb (h.hd i hi), fun i hi => by
    rcases h.pt i hi with h0 | ⟨b, off, ha, hB, hf, hz⟩
    · exact .inl h0
    · by_cases h0 : es[i].p.length = 0
      · exact .inl h0
      · obtain ⟨z, hz0⟩ := hz 0 (by omega)
        have hlt := World.block_lt_of_cell? w _ hz0
        exact .inr ⟨b, off, ha, hB, fun j => (hb.frozen (p := ⟨b, j, none⟩) hlt).trans (hf j), fun j hj => by obtain ⟨y, hy⟩ := hz j hj; exact ⟨y, cell_keep hb hy⟩⟩⟩
theorem below_put {B : Nat} {w w1 : World} (h : Below B w w1) {b o : Nat} (hb : B ≤ b) (x : Value) (hB : B ≤ w1.heap.size) : Below B w (w1.setCell ⟨b, o, none⟩ x) :=
  h.grown (grown_setCell w1 ⟨b, o, none⟩ x) hB (fun j hj => by simp at hj; omega)
def BelW (m w : World) : Prop := Below m.heap.size m w
theorem BelW.refl (w : World) : BelW w w := Below.refl _ _
theorem BelW.later {m w w1 : World} (h : BelW m w) (hb : Below w.heap.size w w1) : BelW m w1 := Below.trans h (hb.mono (Below.size h))
theorem BelW.size {m w : World} (h : BelW m w) : m.heap.size ≤ w.heap.size := Below.size h
theorem BelW.put {m w : World} (h : BelW m w) {b o : Nat} (hb : m.heap.size ≤ b) (x : Value) : BelW m (w.setCell ⟨b, o, none⟩ x) := below_put h hb x h.size
theorem wt_of {w : World} {B : Nat} {a : Option Addr} {es : List E} (h : TrsN w B a es) : ∃ rb ro, Wt w B rb ro es ∧ (es ≠ [] → a = some ⟨rb, ro, none⟩) := by
  rcases h.r with h0 | ⟨b, off, ha, -, hr⟩
  · subst h0
    exact ⟨0, 0, ⟨fun i hi => by simp at hi, fun i hi => by simp at hi⟩, fun h => absurd rfl h⟩
  · exact ⟨b, off, Wt.of hr h.p, fun _ => ha⟩
theorem tm_le {os l : List E} (h : tm os = tm l) (h1 : l.length ≤ 1000000) (h2 : ∀ e ∈ l, e.p.length ≤ 1000000) : os.length ≤ 1000000 ∧ ∀ e ∈ os, e.p.length ≤ 1000000 := by
  have hn : os.length = l.length := by rw [← tm_len, h, tm_len]
  refine ⟨by omega, fun e he => ?_⟩
  have hm : (e.c, e.p) ∈ tm l := by rw [← h]; exact List.mem_map.2 ⟨e, he, rfl⟩
  obtain ⟨x, hx, hxe⟩ := List.mem_map.1 hm
  simp only [Prod.mk.injEq] at hxe
  rw [← hxe.2]
  exact h2 x hx
set_option maxHeartbeats 6400000 in
theorem lpl_core (r v : Int) (ao : Option Addr) (ca : Nat) (l : List E) (N : List Trm) (w : World) (h : Trs w ao l) (hl1 : l.length ≤ 1000000) (hl2 : ∀ e ∈ l, e.p.length ≤ 1000000)
    (hM : ∀ W : World, Trs W ao l → Calls Try.prog 15 #[.slice ao l.length ca] W fun e w' => e = .returned (.bool false) ∧ Below W.heap.size W w')
    (cC : ∀ W : World, Trs W ao l → Calls Try.prog 16 #[.slice ao l.length ca] W fun e w' => (∃ a c, ∃ es : List E, e = .returned (.slice a es.length c) ∧ Trs w' a es ∧ tm es = tm l) ∧ Below W.heap.size W w')
    (cP : ∀ (os : List E), tm os = tm l → ∀ (W : World) (a : Option Addr) (c : Nat), Trs W a os → Calls Try.prog 17 #[.slice a os.length c] W fun e w' => (∃ a1 c1, ∃ es : List E, e = .returned (.tuple #[.slice a1 es.length c1, .int .i64 r]) ∧ TrsN w' W.heap.size a1 es ∧ tm es = N ∧ es.length ≤ 1000000 ∧ ∀ e ∈ es, e.p.length ≤ 1000000) ∧ Below W.heap.size W w')
    (cD : ∀ W : World, Trs W ao l → Calls Try.prog 18 #[.slice ao l.length ca] W fun e w' => Ans N r e w' ∧ Below W.heap.size W w')
    (cV : ∀ W : World, Trs W ao l → Calls Try.prog 19 #[.slice ao l.length ca] W fun e w' => e = .returned (.int .i64 v) ∧ Below W.heap.size W w')
    (cW : ∀ W : World, Trs W ao l → Calls Try.prog 20 #[.slice ao l.length ca] W fun e w' => e = .returned (.int .i64 v) ∧ Below W.heap.size W w')
    : Calls Try.prog 4 #[.slice ao l.length ca] w fun e w' => e = .returned (.bool true) ∧ Below w.heap.size w w' := by
  have kn := known3_any
  have H0 := Lib.hid h
  have H0x := H0
  have HL2 := Lib.hid hl2
  clear h hl2
  go_enter Try.func4, Try.ntmps4
  go_wp2_with (fail)
  refine (hM _ (H0.out)).mono ?_
  rintro e w1 ⟨rfl, hw1⟩
  have bw1 : Below w.heap.size w w1 := hw1
  have H1 := Lib.hid (H0.out.later bw1)
  have HB1 := Lib.hid bw1
  clear hw1 bw1 H0
  go_wp2_with (fail)
  refine (cC _ (H1.out)).mono ?_
  rintro e w2 ⟨⟨a2, k2, os, rfl, hT, hos⟩, hw2⟩
  have bw2 : Below w1.heap.size w1 w2 := hw2
  have H2 := Lib.hid (H1.out.later bw2)
  have HB2 := Lib.hid (HB1.out.trans (bw2.mono HB1.out.size))
  have OW2 := Lib.hid hT
  clear hT
  clear hw2 bw2 H1 HB1
  have BW2 := Lib.hid (BelW.refl w2)
  have HZ := HB2
  have HH := H0x
  have OO := OW2
  have HOS := Lib.hid hos
  go_wp2_with (fail)
  refine (cP os hos _ _ _ (OW2.out)).mono ?_
  rintro e w3 ⟨⟨a3, c3, es, rfl, hN, hes, he1, he2⟩, hw3⟩
  have bw3 : Below w2.heap.size w2 w3 := hw3
  have H3 := Lib.hid (H2.out.later bw3)
  have OW3 := Lib.hid (OW2.out.later bw3)
  have BW3 := Lib.hid (BW2.out.later bw3)
  have HB3 := Lib.hid (HB2.out.trans (bw3.mono HB2.out.size))
  have NW3 := Lib.hid hN
  clear hN
  clear hw3 bw3 H2 OW2 BW2 HB2
  have HE2 := Lib.hid he2
  clear he2
  go_wp2_with (fail)
  refine (cD _ (H3.out)).mono ?_
  rintro e w4 ⟨⟨a4, c4, fs, rfl, hD, hfs, -, -⟩, hw4⟩
  have bw4 : Below w3.heap.size w3 w4 := hw4
  have H4 := Lib.hid (H3.out.later bw4)
  have OW4 := Lib.hid (OW3.out.later bw4)
  have BW4 := Lib.hid (BW3.out.later bw4)
  have NW4 := Lib.hid (NW3.out.later bw4)
  have HB4 := Lib.hid (HB3.out.trans (bw4.mono HB3.out.size))
  have DW4 := Lib.hid hD
  clear hD
  clear hw4 bw4 H3 OW3 BW3 NW3 HB3
  go_wp2_with (fail)
  refine (cV _ (H4.out)).mono ?_
  rintro e w5 ⟨rfl, hw5⟩
  have bw5 : Below w4.heap.size w4 w5 := hw5
  have H5 := Lib.hid (H4.out.later bw5)
  have OW5 := Lib.hid (OW4.out.later bw5)
  have BW5 := Lib.hid (BW4.out.later bw5)
  have NW5 := Lib.hid (NW4.out.later bw5)
  have DW5 := Lib.hid (DW4.out.later bw5)
  have HB5 := Lib.hid (HB4.out.trans (bw5.mono HB4.out.size))
  clear hw5 bw5 H4 OW4 BW4 NW4 DW4 HB4
  go_wp2_with (fail)
  refine (cW _ (H5.out)).mono ?_
  rintro e w6 ⟨rfl, hw6⟩
  have bw6 : Below w5.heap.size w5 w6 := hw6
  have H6 := Lib.hid (H5.out.later bw6)
  have OW6 := Lib.hid (OW5.out.later bw6)
  have BW6 := Lib.hid (BW5.out.later bw6)
  have NW6 := Lib.hid (NW5.out.later bw6)
  have DW6 := Lib.hid (DW5.out.later bw6)
  have HB6 := Lib.hid (HB5.out.trans (bw6.mono HB5.out.size))
  clear hw6 bw6 H5 OW5 BW5 NW5 DW5 HB5
  go_wp2_with (fail)
  refine (sameTerms_true _ _ _ _ es fs _ ((NW6.out)).o (DW6.out) (hes.trans hfs.symm) he1 HE2.out).mono ?_
  rintro e w7 ⟨rfl, hw7⟩
  have bw7 : Below w6.heap.size w6 w7 := hw7
  have H7 := Lib.hid (H6.out.later bw7)
  have OW7 := Lib.hid (OW6.out.later bw7)
  have BW7 := Lib.hid (BW6.out.later bw7)
  have NW7 := Lib.hid (NW6.out.later bw7)
  have DW7 := Lib.hid (DW6.out.later bw7)
  have HB7 := Lib.hid (HB6.out.trans (bw7.mono HB6.out.size))
  clear hw7 bw7 H6 OW6 BW6 NW6 DW6 HB6
  clear hM cC cP cD cV cW OW7 DW7 H7 hes hfs hos
  obtain ⟨rb, ro, hW, ha⟩ := wt_of NW7.out
  have BW := BW7
  have HBz := HB7.out
  have s2 := BW.out.size
  have HW := Lib.hid hW
  clear BW7 NW7 HB7 hW

  go_wp2
  go_loopw [9, 10] (fun q _ wr => ∃ i : Nat, i ≤ es.length ∧ q = .int .i64 i ∧ Hid (Wt wr w2.heap.size rb ro es) ∧ Hid (BelW w2 wr)) (fun q _ _ => es.length - (intOf q).toNat)
  case atStart => exact ⟨0, by omega, rfl, HW, BW⟩
  case round =>
    obtain ⟨i, hi, rfl, hw, hb⟩ := hrel
    clear HW BW HBz
    by_cases hlt : i < es.length
    · have i1 : (i : Int) < (es.length : Int) := by omega
      obtain rfl := ha (by intro e; rw [e] at hlt; simp at hlt)
      have hpl := HE2.out _ (List.getElem_mem hlt)
      go_wp2
      go_loopw [10] (fun q wr => ∃ k : Nat, k ≤ es[i].p.length ∧ q = .int .i64 k ∧ Hid (Wt wr w2.heap.size rb ro es) ∧ Hid (BelW w2 wr)) (fun q _ => es[i].p.length - (intOf q).toNat)
      case atStart => exact ⟨0, by omega, rfl, hw, hb⟩
      case round =>
        obtain ⟨k, hk, rfl, hw', hb'⟩ := hrel
        clear hw hb
        have y1 := hw'.out.hd i hlt
        by_cases hlk : k < es[i].p.length
        · have i2 : (k : Int) < (es[i].p.length : Int) := by omega
          obtain ⟨pb, po, hpa, hB, hfr, hz⟩ := (hw'.out.pt i hlt).resolve_left (by omega)
          obtain ⟨z, hz⟩ := hz k hlk
          have hW2 := Lib.hid (hw'.out.put hz (hfr _) 9)
          have hB2 := Lib.hid (hb'.out.put hB (o := po + k) (.int .i64 9))
          have hf := hfr (po + k)
          rw [hpa] at y1
          clear hfr hpa
          generalize es[i].p.length = n at *
          generalize es[i].k = pk at *
          go_wp2
          exact ⟨⟨k + 1, by omega, by go_num, hW2, hB2⟩, by simp [intOf]; omega⟩
        · obtain rfl : k = es[i].p.length := by omega
          generalize es[i].p.length = n at *
          generalize es[i].k = pk at *
          generalize es[i].a = pa at *
          go_wp2
          exact ⟨⟨i + 1, by omega, by go_num, hw', hb'⟩, by simp [intOf]; omega⟩
    · obtain rfl : i = es.length := by omega
      have b0 : Below w.heap.size w w2 := HZ.out
      have bz := b0.trans (hb.out.mono b0.size)
      go_wp2_with (fail)
      refine (sameTerms_true _ _ _ _ os l _ (OO.out.later hb.out) (HH.out.later bz) HOS.out (tm_le HOS.out hl1 HL2.out).1 (tm_le HOS.out hl1 HL2.out).2).mono ?_
      rintro e w9 ⟨rfl, hw9⟩
      go_wp2_with (fail)
      refine (kn _).mono ?_
      rintro e wa ⟨rfl, hwa⟩
      go_wp2
      go_ret
      exact ⟨rfl, by repeat (first | (with_reducible exact Below.refl _ _) | (with_reducible refine Below.setCell ?_ ?_ _) | (with_reducible refine Below.drew ?_) | (with_reducible refine Below.alloc ?_ ?_ _) | (with_reducible refine Below.trans ?_ (Below.mono hwa ?_)) | (with_reducible refine Below.trans ?_ (Below.mono hw9 ?_)) | (with_reducible refine Below.trans ?_ (Below.mono bz ?_)) | (with_reducible exact hwa.size) | (with_reducible exact hw9.size) | (with_reducible exact bz.size) | omega | (simp <;> omega) | (simp <;> (have s := hwa.size; omega)) | (simp <;> (have s := hw9.size; omega)) | (simp <;> (have s := bz.size; omega)) | (have s0 := hwa.size; (try simp at s0); have s1 := hw9.size; (try simp at s1); have s2 := bz.size; (try simp at s2); (try simp); omega))⟩
set_option maxHeartbeats 1600000 in
theorem lpl_many (ao : Option Addr) (ca : Nat) (l : List E) (w : World) (h : Trs w ao l) (hf : ¬ few l) (hl : l.length ≤ maxLen) (hp : ∀ e ∈ l, e.p.length ≤ maxLen) : Calls Try.prog 4 #[.slice ao l.length ca] w fun e w' => e = .returned (.bool true) ∧ Below w.heap.size w w' := by
  have kn := known3_any
  have cM := many_yes ao ca l w h hf hl hp
  clear h hf hp
  go_enter Try.func4, Try.ntmps4
  go_wp2_with (fail)
  refine cM.mono ?_
  rintro e w1 ⟨rfl, hw1⟩
  go_wp2_with (fail)
  refine (kn _).mono ?_
  rintro e w2 ⟨rfl, hw2⟩
  have hb := hw1.trans (hw2.mono hw1.size)
  go_wp2
  go_ret
  exact ⟨rfl, hb⟩
theorem loopPlains_walk (ao : Option Addr) (l : List E) (ca : Nat) (w : World) (hl : l.length ≤ maxLen) (hp : ∀ e ∈ l, e.p.length ≤ maxLen) (h : Trs w ao l) : Calls Try.prog 4 #[.slice ao l.length ca] w fun e w' => e = .returned (.bool true) ∧ Below w.heap.size w w' := by
  by_cases hf : ¬ few l
  · exact lpl_many ao ca l w h hf hl hp
  have hf := Classical.not_not.1 hf
  obtain ⟨f1, f2⟩ := few_big hf
  have hM := fun W h => many_no ao ca l W h hf
  have cC := fun W h => (refCopy_any ao ca l W h ⟨by have := hf.1; omega, fun e he => by have := hf.2 e he; omega⟩).mono fun e w' ⟨a, c, es, he, hT, hm, hb⟩ => And.intro (show ∃ a c, ∃ es : List E, e = Ending.returned (.slice a es.length c) ∧ Trs w' a es ∧ tm es = tm l from ⟨a, c, es, he, hT, hm⟩) hb
  have cV := fun W h => validateTerms_any ao ca l W h f1 f2
  have cW := fun W h => refVT_any ao ca l W h f1 f2
  by_cases hv : vT (tm l) = 0
  · have cD := fun W h => (refPlain_ok ao ca l W h hv).mono fun e w' ⟨h1, hb⟩ => And.intro h1.ans hb
    refine lpl_core _ _ ao ca l _ w h f1 f2 hM cC ?_ cD cV cW
    intro os hos W a c hT
    have hv2 : vT (tm os) = 0 := by rw [hos]; exact hv
    refine (Plain_ok a c os W hT hv2).mono ?_
    rintro e w' ⟨hr, hb⟩
    rw [hos] at hr
    refine ⟨?_, hb⟩
    unfold ansN ansR
    rcases hr with ⟨h0, a1, c1, es, rfl, hN, hm⟩ | ⟨h0, rfl⟩
    · rw [if_pos h0, if_pos h0]
      exact ⟨a1, c1, es, rfl, hN, hm, (ans_es h0 hm).1, (ans_es h0 hm).2⟩
    · rw [if_neg h0, if_neg h0]
      exact ⟨none, 0, [], rfl, ⟨.inl rfl, fun e he => by simp at he⟩, rfl, by simp, fun e he => by simp at he⟩
  · have cD : ∀ W : World, Trs W ao l → Calls Try.prog 18 #[.slice ao l.length ca] W fun e w' => Ans [] (vT (tm l)) e w' ∧ Below W.heap.size W w' := fun W h => (refPlain_bad ao ca l W h hv f1 f2).mono fun e w' ⟨h1, hb⟩ => And.intro (by rw [h1]; exact ans_err _ _) hb
    refine lpl_core _ _ ao ca l _ w h f1 f2 hM cC ?_ cD cV cW
    intro os hos W a c hT
    obtain ⟨o1, o2⟩ := tm_le hos f1 f2
    refine (Plain_bad a c os _ W hT (by rw [hos]) hv o1 o2).mono ?_
    rintro e w' ⟨rfl, hb⟩
    exact ⟨⟨none, 0, [], rfl, ⟨.inl rfl, fun e he => by simp at he⟩, rfl, by simp, fun e he => by simp at he⟩, hb⟩

/-! ### The statement of the law LoopPlains, out of its walk -/
set_option maxRecDepth 100000 in
theorem loopPlains_lifted (os : Os) (started : os.Started) (H : Type) (enc : TypeId × Value → H) :
    ReturnsInHanded {} Try.checked os 4 .any (Rows.loopPlainsSpec.pre6 enc Try.prog Try.f4 Rows.loopPlainsRow.domain false) (Rows.loopPlainsSpec.post enc Try.prog Try.f4 false true false false) := by
  refine returnsInHanded_of_change (C := Try.checked) own started (by kernel_rfl) Try.func4
    (ChangeSpec.witness6 (enc := enc) (C := Try.checked) false ⟨#[], #[.slice none 0 0], []⟩ 8 (by kernel_rfl) (by kernel_rfl) (by kernel_rfl) (by kernel_rfl)) ?_
  intro W base args ds gs before hval0 hW hcnd _
  have hval : ∀ (j : Nat) t v, Try.f4.params[j]? = some t → args[j]? = some v → Value.okWide Try.prog W .any base t v := hval0
  have hW' := hW
  obtain ⟨p, q, hA0, hV, rfl, hfz, hnd⟩ := hW
  have hA : DataW.TrodAll enc Try.prog W 0 (fun _ => true) true Try.f4.params.toList args.toList ds p := hA0
  rw [Try.params4] at hA hval
  obtain ⟨v0, vs0, d0, ds0, p0, q0, hargs, rfl, rfl, h0, r0⟩ := trodAll_cons hA
  obtain ⟨rfl, rfl, rfl⟩ := trodAll_nil r0
  obtain rfl : args = #[v0] := by cases args; simp_all
  obtain ⟨rfl, rfl⟩ := trodVars_none hV
  have k0 := h0
  have lt0 : ∀ x ∈ p0, x.block < W.heap.size := by obtain ⟨m, hm⟩ := k0; exact DataW.trod_lt m _ _ _ hm
  obtain ⟨po0, l0, pc0, rfl, hkl0, hkp0, hkt0⟩ := open_terms (hval 0 29 v0 rfl rfl) h0
  clear hA0 hval0
  refine (loopPlains_walk po0 l0 pc0 W hkl0 hkp0 hkt0).mono fun e W' ⟨he, bel⟩ => ?_
  subst he
  exact ⟨_, rfl, _, _, _, [], _, [], hW', trodAll_mk1 (shut_bool Try.underlying4 _), (trodAll_cons_mk (Below.trod laidOut (by kernel_rfl) (of_decide_eq_true (by kernel_rfl)) k0 bel lt0) trodAll_mk0), rfl, bel.frame _, fun h => by cases h⟩

theorem loopPlains_jf9 : (Rows.loopPlainsRow.inPlace == Try.prog.inPlace 4) = true := by kernel_rfl
theorem loopPlains_jf10 : (Rows.loopPlainsRow.unfollowed == Try.prog.unfollowed 4) = true := by kernel_rfl
theorem loopPlains_jf11 : (Rows.loopPlainsRow.recurses == Try.prog.recurses 4) = true := by kernel_rfl
theorem loopPlains_jf12 : (Rows.loopPlainsRow.named == Try.prog.varsNamed 4) = true := by kernel_rfl
theorem loopPlains_facts : joinedFacts Try.prog 4 Try.f4 Rows.loopPlainsSpec Rows.loopPlainsRow = true := by
  unfold joinedFacts
  exact (band (band (band (band (band (band (band (band (band (band (band (band (band (band (band (band (band (band (band (band (band (band (band (band (band (band (band (band (band (band (band (by kernel_rfl) jf1) jf2) (by kernel_rfl)) (by kernel_rfl)) (by kernel_rfl)) jf6) (by kernel_rfl)) jf8) loopPlains_jf9) loopPlains_jf10) loopPlains_jf11) loopPlains_jf12) (by kernel_rfl)) (by kernel_rfl)) (by kernel_rfl)) (by kernel_rfl)) (by kernel_rfl)) (by kernel_rfl)) (by kernel_rfl)) (by kernel_rfl)) (by kernel_rfl)) (by kernel_rfl)) (by kernel_rfl)) jf24) jf25) jf26) jf27) (by kernel_rfl)) (by kernel_rfl)) (by kernel_rfl)) (by kernel_rfl))

theorem loopPlains_over : Rows.loopPlainsRow.holds Try.pinned (OpenSpec.ofChange Rows.loopPlainsSpec) :=
  OpenClaim.holds_of_wide 4 Try.f4 rfl rfl rfl rfl rfl rfl rfl ⟨rfl, rfl, rfl, rfl, rfl⟩ rfl rfl rfl rfl rfl (by kernel_rfl) Try.func4 loopPlains_facts
    (of_decide_eq_true (by kernel_rfl)) (by unfold Func.isWrapper; first | (rw [if_pos (by decide +kernel)]; kernel_rfl) | (rw [if_neg (by decide +kernel)]; exact ⟨rfl, rfl⟩))
    (fun os started H enc _ => loopPlains_lifted os started H enc)

theorem loopPlains_holds : Rows.LoopPlainsSaid := loopPlains_over
#print axioms loopPlains_holds

end Go.Proofs.Ytjidbajcnomceaa
