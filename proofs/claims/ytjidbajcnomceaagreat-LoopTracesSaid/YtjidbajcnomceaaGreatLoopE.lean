/- Sums of loops are read, as the program does.
Conditions: those written at each theorem. -/
import Derived.Test.YtjidbajcnomceaaGreatLoopC
namespace Go.Proofs.YtjidbajcnomceaaGreat
set_option linter.unusedVariables false
set_option linter.unusedSimpArgs false
set_option maxRecDepth 1000000
open Go.RowKit
open Um Tm Lm

theorem info3T : (Tryz.prog.info? 119).map (fun i => (i.zero, i.size, i.bytes)) = some (some (.agg #[.int .i64 0, .slice none 0 0, .slice none 0 0]), 3, 56) := by kernel_rfl
def rdT (l : List Trm) : List Trm := l.map fun t => (t.1, red t.2)
theorem rdT_take (l : List Trm) (k : Nat) (hk : k < l.length) : rdT (l.take (k + 1)) = rdT (l.take k) ++ [(l[k].1, red l[k].2)] := by
  unfold rdT
  rw [List.take_succ_eq_append_getElem hk, List.map_append]
  rfl
theorem tm3_snoc (l : List T3) (x : T3) : tm3 (l ++ [x]) = tm3 l ++ [(x.c, x.p)] := by simp [tm3]

set_option maxHeartbeats 6400000 in
theorem read_own (ao : Option Addr) (cap : Nat) (l : List E) (w : World) (h : Trs w ao l) (hv : vT (tm l) = 0) :
    Calls Tryz.prog 110 #[.slice ao l.length cap] w fun e w' => ∃ g c, ∃ ts : List T3, e = .returned (.tuple #[.slice (some ⟨g, 0, none⟩) ts.length c, .int .i64 0]) ∧ w'.ownsRow g 119 3 (.slice (some ⟨g, 0, none⟩) ts.length c) ts.length (ts.flatMap tc) ∧ w.heap.size ≤ g ∧ T3N w' (g + 1) ts ∧ tm3 ts = rdT (tm l) ∧ Below w.heap.size w w' := by
  have hok := vT_ok hv
  have hl : l.length ≤ 40 := by have := hok.1; rwa [tm_len] at this
  have hpl : ∀ e ∈ l, e.p.length ≤ 8 ∧ ∀ s ∈ e.p, IsStep s := fun e he => (hok.2 (e.c, e.p) (List.mem_map.2 ⟨e, he, rfl⟩)).2
  have cV := fun W h => validateTerms_any ao cap l W h (by omega) (fun e he => by have := (hpl e he).1; omega)
  rw [hv] at cV
  obtain ⟨i0, hi, hz0, hz1, hz2⟩ := info_parts info3T
  have hl2 : l.length ≤ maxLen := by unfold maxLen; omega
  have hl3 : i0.bytes * l.length ≤ 281474976710656 := by rw [hz2]; omega
  have H := Lib.hid h
  have HP := Lib.hid hpl
  clear h hv hok hpl
  go_enter Tryz.func110, Tryz.ntmps110
  go_wp2_with (first
    | ((with_reducible refine (cV _ (H.out.later (by repeat (first | (with_reducible exact Below.refl _ _) | (with_reducible refine Below.setCell ?_ ?_ _) | (with_reducible refine Below.drew ?_) | (with_reducible refine Below.alloc ?_ ?_ _) | omega | (simp <;> omega))))).mono ?_); clear cV; rintro e w1 ⟨rfl, hw1⟩; have s1 := hw1.size)
    | (at_make; refine wpList_make_own _ rfl _ _ 113 rfl w1.heap.size 119 i0 _ 3 Tryz.underlying113 hi hz0 hz1 _ _ _ l.length rfl rfl rfl hl3 hl2 (Nat.le_refl _) ?_; intro w2 hown hgrow))
  have hb2 : Below w.heap.size w w2 := hw1.grown hgrow (by omega) (by simp)
  have s2 := hgrow.size
  have s3 : w1.heap.size + 1 ≤ w2.heap.size := by
    have := (hown.lt w1.heap.size rfl).2
    omega
  clear hgrow hw1
  generalize w1.heap.size = g at *
  go_loopw [5, 7, 8, 9, 20] (fun f _ _ _ q wr => ∃ (k : Nat) (ts : List T3), k ≤ l.length ∧ q = .int .i64 k ∧ ts.length = k ∧ f = .slice (some ⟨g, 0, none⟩) k l.length ∧ Hid (wr.ownsRow g 119 3 (.slice (some ⟨g, 0, none⟩) k l.length) k (ts.flatMap tc)) ∧ Hid (T3N wr (g + 1) ts) ∧ Hid (tm3 ts = rdT ((tm l).take k)) ∧ Below w.heap.size w wr ∧ g + 1 ≤ wr.heap.size) (fun _ _ _ _ q _ => l.length - (intOf q).toNat)
  case atStart => exact ⟨0, [], by omega, rfl, rfl, rfl, Lib.hid hown, Lib.hid (fun e he => by simp at he), Lib.hid rfl, hb2, s3⟩
  case round =>
    obtain ⟨k, ts, hk, rfl, htl, rfl, HO, HT, HE, hb, hgs⟩ := hrel
    have HTL := Lib.hid htl
    clear hown hb2 s2 s3 htl
    have hbs := hb.size
    by_cases hlt : k < l.length
    · have i1 : (k : Int) < (l.length : Int) := by omega
      obtain ⟨b, off, rfl, x0, x1, hpl⟩ := (H.out.later hb).at_ hlt
      have hpp := HP.out _ (List.getElem_mem hlt)
      have hnext := rdT_take (tm l) k (by rw [tm_len]; exact hlt)
      have hg : (tm l)[k]'(by rw [tm_len]; exact hlt) = (l[k].c, l[k].p) := by simp [tm]
      rw [hg] at hnext
      clear hg
      generalize l[k] = x at *
      obtain ⟨c, p, pa, pk⟩ := x
      simp only at *
      have HN := Lib.hid hnext
      have HL := Lib.hid hpl
      have HPP := Lib.hid hpp.2
      have h8 := hpp.1
      have cW := fun W h => walkOf_ok pa pk p W h HPP.out h8
      clear hnext hpl hpp
      go_wp2_with (first
        | (((with_reducible refine (cW _ (HL.out.later (by repeat (first | (with_reducible exact Below.refl _ _) | (with_reducible refine Below.setCell ?_ ?_ _) | (with_reducible refine Below.drew ?_) | (with_reducible refine Below.alloc ?_ ?_ _) | omega | (simp <;> omega))))).mono ?_); clear cW; rintro e w3 ⟨a1, a2, c1, c2, rfl, hl1, hl2', hn1, hn2, hw3⟩)
           have z3 := Nat.lt_of_lt_of_le (n := wr.heap.size) (by simp) hw3.size
           have hc3 := Tail.cells hw3
           have hb3 : Below w.heap.size w w3 := (by repeat (first | (with_reducible exact Below.refl _ _) | (with_reducible refine Below.setCell ?_ ?_ _) | (with_reducible refine Below.drew ?_) | (with_reducible refine Below.alloc ?_ ?_ _) | (with_reducible refine Below.trans ?_ (Below.mono hw3 ?_)) | (with_reducible refine Below.trans ?_ (Below.mono hb ?_)) | (with_reducible exact hw3.size) | (with_reducible exact hb.size) | omega | (simp <;> omega) | (simp <;> (have s := hw3.size; omega)) | (simp <;> (have s := hb.size; omega)) | (have s0 := hw3.size; (try simp at s0); have s1 := hb.size; (try simp at s1); (try simp); omega)))
           have HO3 := Lib.hid (owned_later (HO.out.alloc _) hw3)
           have HT3 := Lib.hid ((HT.out.later (w1 := wr.alloc _) (by repeat (first | (with_reducible exact Below.refl _ _) | (with_reducible refine Below.setCell ?_ ?_ _) | (with_reducible refine Below.drew ?_) | (with_reducible refine Below.alloc ?_ ?_ _) | omega | (simp <;> omega)))).later hw3)
           have HL1 : Hid (LiesNI w3 (g + 1) a1 (red p)) := Lib.hid (hl1.le (by simp; omega))
           have HL2 : Hid (LiesNI w3 (g + 1) a2 (opp (red p))) := Lib.hid (hl2'.le (by simp; omega))
           have hs3 := hb3.size
           have hgs3 : g + 1 ≤ w3.heap.size := (by omega)
           clear HO HT hl1 hl2' hw3 hb hbs)
        | (at_builtin; refine wpList_append_fits _ rfl (.tmp 33) (.tmp 38) 113 rfl g 119 i0 3 Tryz.underlying113 hi hz1 g k l.length (ts.flatMap tc) rfl ((HO3.out.alloc _).alloc _) ⟨w3.heap.size + 1, 0, none⟩ 1 1 (tc ⟨c, red p, a1, c1, a2, c2⟩) rfl rfl (three_cells rfl (by simp [go_sem]) (by simp [go_sem]) (by simp [go_sem])) (tc_one _) (by omega) ?_; intro w4 hown4 hgrow4))
      have ho : w4.ownsRow g 119 3 (.slice (some ⟨g, 0, none⟩) (k + 1) l.length) (k + 1) ((ts ++ [(⟨c, red p, a1, c1, a2, c2⟩ : T3)]).flatMap tc) := by
        rw [List.flatMap_append]
        simpa using hown4
      have b34 : Below w3.heap.size w3 ((w3.alloc (.cells #[.slice a1 (red p).length c1, .slice a2 (opp (red p)).length c2] 117)).alloc (.cells #[.int .i64 c, .slice a1 (red p).length c1, .slice a2 (opp (red p)).length c2] 119)) := by repeat (first | (with_reducible exact Below.refl _ _) | (with_reducible refine Below.setCell ?_ ?_ _) | (with_reducible refine Below.drew ?_) | (with_reducible refine Below.alloc ?_ ?_ _) | omega | (simp <;> omega))
      have hT4 : T3N w4 (g + 1) (ts ++ [(⟨c, red p, a1, c1, a2, c2⟩ : T3)]) := T3N.snoc ((HT3.out.later b34).grown hgrow4 (by omega)) ⟨(HL1.out.later b34).grown hgrow4 (by omega), (HL2.out.later b34).grown hgrow4 (by omega), hn1, hn2⟩
      have hE4 : tm3 (ts ++ [(⟨c, red p, a1, c1, a2, c2⟩ : T3)]) = rdT ((tm l).take (k + 1)) := by rw [tm3_snoc, HE.out, HN.out]
      have hb4 : Below w.heap.size w w4 := Below.grown (by repeat (first | (with_reducible exact Below.refl _ _) | (with_reducible refine Below.setCell ?_ ?_ _) | (with_reducible refine Below.drew ?_) | (with_reducible refine Below.alloc ?_ ?_ _) | (with_reducible refine Below.trans ?_ (Below.mono hb3 ?_)) | (with_reducible exact hb3.size) | omega | (simp <;> omega) | (simp <;> (have s := hb3.size; omega)) | (have s0 := hb3.size; (try simp at s0); (try simp); omega))) hgrow4 (by simp; omega) (fun j hj => by simp at hj; omega)
      have s4 := hgrow4.size
      simp at s4
      have HO4 := Lib.hid ho
      have HT4 := Lib.hid hT4
      have HE4 := Lib.hid hE4
      clear hown4 hgrow4 ho hT4 hE4 HO3 HT3 HL1 HL2 b34 hb3 HE HN
      go_wp2
      exact ⟨⟨k + 1, _, by omega, by go_num, by simp [HTL.out], rfl, HO4, HT4, HE4, hb4, by omega⟩, by simp [intOf]; omega⟩
    · obtain rfl : l.length = k := by omega
      have hE : tm3 ts = rdT (tm l) := by have := HE.out; rwa [List.take_of_length_le (by rw [tm_len]; omega)] at this
      have HE2 := Lib.hid hE
      have ho : wr.ownsRow g 119 3 (.slice (some ⟨g, 0, none⟩) ts.length l.length) ts.length (ts.flatMap tc) := by
        rw [HTL.out]
        exact HO.out
      have HR := Lib.hid ho
      clear HE hE ho HO
      go_wp2
      go_ret2
      exact ⟨g, l.length, ts, by rw [HTL.out]; rfl, HR.out, by omega, HT.out, HE2.out, hb⟩
theorem read_ok (ao : Option Addr) (cap : Nat) (l : List E) (w : World) (h : Trs w ao l) (hv : vT (tm l) = 0) :
    Calls Tryz.prog 110 #[.slice ao l.length cap] w fun e w' => ∃ a c, ∃ ts : List T3, e = .returned (.tuple #[.slice a ts.length c, .int .i64 0]) ∧ Tr3 w' w.heap.size a ts ∧ tm3 ts = rdT (tm l) ∧ Below w.heap.size w w' :=
  (read_own ao cap l w h hv).mono fun e w' ⟨g, c, ts, he, ho, hg, ht, hr, hb⟩ => ⟨some ⟨g, 0, none⟩, c, ts, he, ⟨.inr ⟨g, 0, rfl, hg, owned_rows tc_len ho⟩, ht.le (by omega)⟩, hr, hb⟩
set_option maxHeartbeats 1600000 in
theorem read_bad (ao : Option Addr) (cap : Nat) (l : List E) (w : World) (h : Trs w ao l) (hv : vT (tm l) ≠ 0) (hl : l.length ≤ 1000000) (hp : ∀ e ∈ l, e.p.length ≤ 1000000) :
    Calls Tryz.prog 110 #[.slice ao l.length cap] w fun e w' => e = .returned (.tuple #[.slice none 0 0, .int .i64 (vT (tm l))]) ∧ Below w.heap.size w w' := by
  have cV := fun W h => validateTerms_any ao cap l W h hl hp
  generalize vT (tm l) = r at *
  have q1 : (r != 0) = true := by simpa using hv
  have H := Lib.hid h
  clear h hv hp
  go_enter Tryz.func110, Tryz.ntmps110
  go_wp2_with ((with_reducible refine (cV _ (H.out.later (by repeat (first | (with_reducible exact Below.refl _ _) | (with_reducible refine Below.setCell ?_ ?_ _) | (with_reducible refine Below.drew ?_) | (with_reducible refine Below.alloc ?_ ?_ _) | omega | (simp <;> omega))))).mono ?_); clear cV; rintro e w1 ⟨rfl, hw1⟩)
  go_ret2
  exact ⟨rfl, by repeat (first | (with_reducible exact Below.refl _ _) | (with_reducible refine Below.setCell ?_ ?_ _) | (with_reducible refine Below.drew ?_) | (with_reducible refine Below.alloc ?_ ?_ _) | (with_reducible refine Below.trans ?_ (Below.mono hw1 ?_)) | (with_reducible exact hw1.size) | omega | (simp <;> omega) | (simp <;> (have s := hw1.size; omega)) | (have s0 := hw1.size; (try simp at s0); (try simp); omega))⟩

set_option maxHeartbeats 1600000 in
theorem readBoth_ok (ao bo : Option Addr) (ca cb : Nat) (l m : List E) (w : World) (h : Trs w ao l) (h2 : Trs w bo m) (hv : vT (tm l) = 0) (hv2 : vT (tm m) = 0) :
    Calls Tryz.prog 84 #[.slice ao l.length ca, .slice bo m.length cb] w fun e w' => ∃ a c b d, ∃ ts us : List T3, e = .returned (.tuple #[.slice a ts.length c, .slice b us.length d, .int .i64 0]) ∧ Tr3 w' w.heap.size a ts ∧ Tr3 w' w.heap.size b us ∧ tm3 ts = rdT (tm l) ∧ tm3 us = rdT (tm m) ∧ Below w.heap.size w w' := by
  have c1 := fun W h => read_ok ao ca l W h hv
  have c2 := fun W h => read_ok bo cb m W h hv2
  have H := Lib.hid h
  have H2 := Lib.hid h2
  clear h h2 hv hv2
  go_enter Tryz.func84, Tryz.ntmps84
  go_wp2_with (fail)
  refine (c1 _ (H.out.later (by repeat (first | (with_reducible exact Below.refl _ _) | (with_reducible refine Below.setCell ?_ ?_ _) | (with_reducible refine Below.drew ?_) | (with_reducible refine Below.alloc ?_ ?_ _) | omega | (simp <;> omega))))).mono ?_
  rintro e w1 ⟨a, c, ts, rfl, ht, he, hw1⟩
  have HT := Lib.hid ht
  have HE := Lib.hid he
  clear ht he c1
  go_wp2_with (fail)
  refine (c2 _ (H2.out.later (by repeat (first | (with_reducible exact Below.refl _ _) | (with_reducible refine Below.setCell ?_ ?_ _) | (with_reducible refine Below.drew ?_) | (with_reducible refine Below.alloc ?_ ?_ _) | (with_reducible refine Below.trans ?_ (Below.mono hw1 ?_)) | (with_reducible exact hw1.size) | omega | (simp <;> omega) | (simp <;> (have s := hw1.size; omega)) | (have s0 := hw1.size; (try simp at s0); (try simp); omega))))).mono ?_
  rintro e w2 ⟨b, d, us, rfl, hu, he2, hw2⟩
  have HU := Lib.hid hu
  have HE2 := Lib.hid he2
  clear hu he2 c2
  go_wp2_with (fail)
  refine bodyPost_ret (v := .tuple #[.slice a ts.length c, .slice b us.length d, .int .i64 0]) ?_ rfl ⟨a, c, b, d, ts, us, rfl, (HT.out.le ?_).later hw2, HU.out.le ?_, HE.out, HE2.out, ?_⟩
  · simp [results, Tryz.results84, go_sem]
  · exact Nat.le_refl _
  · exact hw1.size
  · repeat (first | (with_reducible exact Below.refl _ _) | (with_reducible refine Below.setCell ?_ ?_ _) | (with_reducible refine Below.drew ?_) | (with_reducible refine Below.alloc ?_ ?_ _) | (with_reducible refine Below.trans ?_ (Below.mono hw2 ?_)) | (with_reducible refine Below.trans ?_ (Below.mono hw1 ?_)) | (with_reducible exact hw2.size) | (with_reducible exact hw1.size) | omega | (simp <;> omega) | (simp <;> (have s := hw2.size; omega)) | (simp <;> (have s := hw1.size; omega)) | (have s0 := hw2.size; (try simp at s0); have s1 := hw1.size; (try simp at s1); (try simp); omega))
set_option maxHeartbeats 1600000 in
theorem readBoth_bad (ao bo : Option Addr) (ca cb : Nat) (l m : List E) (r : Int) (w : World) (h : Trs w ao l) (h2 : Trs w bo m) (hr : r = if vT (tm l) = 0 then vT (tm m) else vT (tm l)) (h0 : r ≠ 0) (hl : l.length ≤ 1000000) (hp : ∀ e ∈ l, e.p.length ≤ 1000000) (hm : m.length ≤ 1000000) (hq : ∀ e ∈ m, e.p.length ≤ 1000000) :
    Calls Tryz.prog 84 #[.slice ao l.length ca, .slice bo m.length cb] w fun e w' => e = .returned (.tuple #[.slice none 0 0, .slice none 0 0, .int .i64 r]) ∧ Below w.heap.size w w' := by
  have q1 : (r != 0) = true := by simpa using h0
  by_cases hv : vT (tm l) = 0
  · rw [if_pos hv] at hr
    have c1 := fun W h => read_ok ao ca l W h hv
    have c2 := fun W h => read_bad bo cb m W h (by rw [← hr]; exact h0) hm hq
    rw [← hr] at c2
    have H := Lib.hid h
    have H2 := Lib.hid h2
    clear h h2 hv hr h0 hp hq
    go_enter Tryz.func84, Tryz.ntmps84
    go_wp2_with (fail)
    refine (c1 _ (H.out.later (by repeat (first | (with_reducible exact Below.refl _ _) | (with_reducible refine Below.setCell ?_ ?_ _) | (with_reducible refine Below.drew ?_) | (with_reducible refine Below.alloc ?_ ?_ _) | omega | (simp <;> omega))))).mono ?_
    rintro e w1 ⟨a, c, ts, rfl, -, -, hw1⟩
    clear c1
    go_wp2_with (fail)
    refine (c2 _ (H2.out.later (by repeat (first | (with_reducible exact Below.refl _ _) | (with_reducible refine Below.setCell ?_ ?_ _) | (with_reducible refine Below.drew ?_) | (with_reducible refine Below.alloc ?_ ?_ _) | (with_reducible refine Below.trans ?_ (Below.mono hw1 ?_)) | (with_reducible exact hw1.size) | omega | (simp <;> omega) | (simp <;> (have s := hw1.size; omega)) | (have s0 := hw1.size; (try simp at s0); (try simp); omega))))).mono ?_
    rintro e w2 ⟨rfl, hw2⟩
    clear c2
    go_wp2_with (fail)
    refine bodyPost_ret (v := .tuple #[.slice none 0 0, .slice none 0 0, .int .i64 r]) ?_ rfl ⟨rfl, ?_⟩
    · simp [results, Tryz.results84, go_sem]
    · repeat (first | (with_reducible exact Below.refl _ _) | (with_reducible refine Below.setCell ?_ ?_ _) | (with_reducible refine Below.drew ?_) | (with_reducible refine Below.alloc ?_ ?_ _) | (with_reducible refine Below.trans ?_ (Below.mono hw2 ?_)) | (with_reducible refine Below.trans ?_ (Below.mono hw1 ?_)) | (with_reducible exact hw2.size) | (with_reducible exact hw1.size) | omega | (simp <;> omega) | (simp <;> (have s := hw2.size; omega)) | (simp <;> (have s := hw1.size; omega)) | (have s0 := hw2.size; (try simp at s0); have s1 := hw1.size; (try simp at s1); (try simp); omega))
  · rw [if_neg hv] at hr
    have c1 := fun W h => read_bad ao ca l W h hv hl hp
    rw [← hr] at c1
    have H := Lib.hid h
    clear h h2 hv hr h0 hp hq
    go_enter Tryz.func84, Tryz.ntmps84
    go_wp2_with (fail)
    refine (c1 _ (H.out.later (by repeat (first | (with_reducible exact Below.refl _ _) | (with_reducible refine Below.setCell ?_ ?_ _) | (with_reducible refine Below.drew ?_) | (with_reducible refine Below.alloc ?_ ?_ _) | omega | (simp <;> omega))))).mono ?_
    rintro e w1 ⟨rfl, hw1⟩
    clear c1
    go_wp2_with (fail)
    refine bodyPost_ret (v := .tuple #[.slice none 0 0, .slice none 0 0, .int .i64 r]) ?_ rfl ⟨rfl, ?_⟩
    · simp [results, Tryz.results84, go_sem]
    · repeat (first | (with_reducible exact Below.refl _ _) | (with_reducible refine Below.setCell ?_ ?_ _) | (with_reducible refine Below.drew ?_) | (with_reducible refine Below.alloc ?_ ?_ _) | (with_reducible refine Below.trans ?_ (Below.mono hw1 ?_)) | (with_reducible exact hw1.size) | omega | (simp <;> omega) | (simp <;> (have s := hw1.size; omega)) | (have s0 := hw1.size; (try simp at s0); (try simp); omega))
end Go.Proofs.YtjidbajcnomceaaGreat
