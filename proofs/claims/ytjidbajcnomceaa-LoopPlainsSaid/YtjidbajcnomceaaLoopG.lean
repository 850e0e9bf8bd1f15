/- Sums of loops are compared, as the program and as the document do.
Conditions: those written at each theorem. -/
import Derived.Test.YtjidbajcnomceaaLoopF
namespace Go.Proofs.Ytjidbajcnomceaa
set_option linter.unusedVariables false
set_option linter.unusedSimpArgs false
set_option maxRecDepth 1000000
open Go.RowKit Go.Sort
open Um Tm Lm

theorem tm_eq_iff {es fs : List E} (hn : es.length = fs.length) : tm es = tm fs ↔ ∀ (j : Nat) (h1 : j < es.length) (h2 : j < fs.length), es[j].c = fs[j].c ∧ es[j].p = fs[j].p := by
  constructor
  · intro h j h1 h2
    exact tm_same_at h j h1 h2
  · intro h
    unfold tm
    apply List.ext_getElem
    · simpa using hn
    · intro j h1 h2
      have h3 := h j (by simpa using h1) (by simpa using h2)
      simp only [List.getElem_map, Prod.mk.injEq]
      exact h3
set_option maxHeartbeats 3200000 in
theorem eqT_some (a1 a2 : Option Addr) (c1 c2 : Nat) (es fs : List E) (w : World) (r : Bool) (h1 : Trs w a1 es) (h2 : Trs w a2 fs) (hn : es.length = fs.length) (hlen : es.length ≤ 1000000) (hp : ∀ e ∈ es, e.p.length ≤ 1000000) (hr : r = decide (tm es = tm fs)) :
    Calls Try.prog 52 #[.slice a1 es.length c1, .slice a2 fs.length c2, .func (.func 53) #[] #[]] w fun e w' => e = .returned (.bool r) ∧ Below w.heap.size w w' := by
  have H1 := Lib.hid h1
  have H2 := Lib.hid h2
  have HR := Lib.hid hr
  have HN := Lib.hid hn
  have HP := Lib.hid hp
  have hn' : ((es.length : Int) != (fs.length : Int)) = false := by simp [hn]
  clear h1 h2 hr hn hp
  go_enter Try.func52, Try.ntmps52
  go_wp2
  go_loopw [7, 8, 9, 17] (fun _ _ _ q wr => ∃ k : Nat, k ≤ es.length ∧ q = .int .i64 k ∧ Hid (∀ (j : Nat) (h1 : j < es.length) (h2 : j < fs.length), j < k → es[j].c = fs[j].c ∧ es[j].p = fs[j].p) ∧ Below w.heap.size w wr) (fun _ _ _ q _ => es.length - (intOf q).toNat)
  case atStart => exact ⟨0, by omega, rfl, Lib.hid (fun j _ _ h => by omega), Below.refl _ _⟩
  case round =>
    obtain ⟨k, hk, rfl, ha, hb⟩ := hrel
    by_cases hlt : k < es.length
    · have i1 : (k : Int) < (es.length : Int) := by omega
      have hlt2 : k < fs.length := by have := HN.out; omega
      have i2 : (k : Int) < (fs.length : Int) := by omega
      obtain ⟨b1, o1, rfl, x0, x1, hx⟩ := (H1.out.later hb).at_ hlt
      obtain ⟨b2, o2, rfl, y0, y1, hy⟩ := (H2.out.later hb).at_ hlt2
      have hpl := HP.out _ (List.getElem_mem hlt)
      have hok := fun (e : es[k].c = fs[k].c ∧ es[k].p = fs[k].p) (j : Nat) (g1 : j < es.length) (g2 : j < fs.length) (g : j < k + 1) => (show es[j].c = fs[j].c ∧ es[j].p = fs[j].p from by
        by_cases he : j < k
        · exact ha.out j g1 g2 he
        · obtain rfl : j = k := by omega
          exact e)
      have hno := fun (e : ¬ (es[k].c = fs[k].c ∧ es[k].p = fs[k].p)) => (show r = false from by
        rw [HR.out]
        exact decide_eq_false fun h => e (tm_same_at h k hlt hlt2))
      have lb2 := World.block_lt_of_cell? wr _ y0
      have cA := fun W h1 h2 => areEqual_any (es[k]'hlt).c (fs[k]'hlt2).c (es[k]'hlt).a (fs[k]'hlt2).a (es[k]'hlt).k (fs[k]'hlt2).k (es[k]'hlt).p (fs[k]'hlt2).p W h1 h2 hpl
      by_cases he : (es[k]'hlt).c = (fs[k]'hlt2).c ∧ (es[k]'hlt).p = (fs[k]'hlt2).p
      · rw [decide_eq_true he] at cA
        have HOK := Lib.hid (hok he)
        generalize es[k] = x at *
        generalize fs[k] = y at *
        obtain ⟨c, p, pa, pk⟩ := x
        obtain ⟨d, q, qa, qk⟩ := y
        simp only at *
        have HX := Lib.hid hx
        have HY := Lib.hid hy
        clear hx hy hok hno he ha
        go_wp2_with ((with_reducible refine (cA _ (HX.out.later (by repeat (first | (with_reducible exact Below.refl _ _) | (with_reducible refine Below.setCell ?_ ?_ _) | (with_reducible refine Below.drew ?_) | (with_reducible refine Below.alloc ?_ ?_ _) | omega | (simp <;> omega)))) (HY.out.later (by repeat (first | (with_reducible exact Below.refl _ _) | (with_reducible refine Below.setCell ?_ ?_ _) | (with_reducible refine Below.drew ?_) | (with_reducible refine Below.alloc ?_ ?_ _) | omega | (simp <;> omega))))).mono ?_); clear cA; rintro e w1 ⟨rfl, hw1⟩)
        first | exact ⟨⟨k + 1, by omega, by go_num, HOK, by repeat (first | (with_reducible exact Below.refl _ _) | (with_reducible refine Below.setCell ?_ ?_ _) | (with_reducible refine Below.drew ?_) | (with_reducible refine Below.alloc ?_ ?_ _) | (with_reducible refine Below.trans ?_ (Below.mono hw1 ?_)) | (with_reducible refine Below.trans ?_ (Below.mono hb ?_)) | (with_reducible exact hw1.size) | (with_reducible exact hb.size) | omega | (simp <;> omega) | (simp <;> (have s := hw1.size; omega)) | (simp <;> (have s := hb.size; omega)) | (have s0 := hw1.size; (try simp at s0); have s1 := hb.size; (try simp at s1); (try simp); omega))⟩, by simp [intOf]; omega⟩ | (go_roundw; case rel => exact ⟨k + 1, by omega, by go_num, HOK, by repeat (first | (with_reducible exact Below.refl _ _) | (with_reducible refine Below.setCell ?_ ?_ _) | (with_reducible refine Below.drew ?_) | (with_reducible refine Below.alloc ?_ ?_ _) | (with_reducible refine Below.trans ?_ (Below.mono hw1 ?_)) | (with_reducible refine Below.trans ?_ (Below.mono hb ?_)) | (with_reducible exact hw1.size) | (with_reducible exact hb.size) | omega | (simp <;> omega) | (simp <;> (have s := hw1.size; omega)) | (simp <;> (have s := hb.size; omega)) | (have s0 := hw1.size; (try simp at s0); have s1 := hb.size; (try simp at s1); (try simp); omega))⟩; case measure => simp [intOf]; omega)
      · rw [decide_eq_false he] at cA
        obtain rfl := hno he
        generalize es[k] = x at *
        generalize fs[k] = y at *
        obtain ⟨c, p, pa, pk⟩ := x
        obtain ⟨d, q, qa, qk⟩ := y
        simp only at *
        have HX := Lib.hid hx
        have HY := Lib.hid hy
        clear hx hy hok hno he ha
        go_wp2_with ((with_reducible refine (cA _ (HX.out.later (by repeat (first | (with_reducible exact Below.refl _ _) | (with_reducible refine Below.setCell ?_ ?_ _) | (with_reducible refine Below.drew ?_) | (with_reducible refine Below.alloc ?_ ?_ _) | omega | (simp <;> omega)))) (HY.out.later (by repeat (first | (with_reducible exact Below.refl _ _) | (with_reducible refine Below.setCell ?_ ?_ _) | (with_reducible refine Below.drew ?_) | (with_reducible refine Below.alloc ?_ ?_ _) | omega | (simp <;> omega))))).mono ?_); clear cA; rintro e w1 ⟨rfl, hw1⟩)
        go_ret
        exact ⟨rfl, by repeat (first | (with_reducible exact Below.refl _ _) | (with_reducible refine Below.setCell ?_ ?_ _) | (with_reducible refine Below.drew ?_) | (with_reducible refine Below.alloc ?_ ?_ _) | (with_reducible refine Below.trans ?_ (Below.mono hw1 ?_)) | (with_reducible refine Below.trans ?_ (Below.mono hb ?_)) | (with_reducible exact hw1.size) | (with_reducible exact hb.size) | omega | (simp <;> omega) | (simp <;> (have s := hw1.size; omega)) | (simp <;> (have s := hb.size; omega)) | (have s0 := hw1.size; (try simp at s0); have s1 := hb.size; (try simp at s1); (try simp); omega))⟩
    · obtain rfl : es.length = k := by omega
      have hf : r = true := by
        rw [HR.out]
        exact decide_eq_true ((tm_eq_iff HN.out).2 fun j h1 h2 => ha.out j h1 h2 h1)
      subst hf
      go_wp2
      go_ret
      exact ⟨rfl, hb⟩
set_option maxHeartbeats 1600000 in
theorem eqT_len (a1 a2 : Option Addr) (c1 c2 n1 n2 : Nat) (f : Value) (w : World) (hn : n1 ≠ n2) :
    Calls Try.prog 52 #[.slice a1 n1 c1, .slice a2 n2 c2, f] w fun e w' => e = .returned (.bool false) ∧ Below w.heap.size w w' := by
  have hn' : ((n1 : Int) != (n2 : Int)) = true := by simp; omega
  clear hn
  go_enter Try.func52, Try.ntmps52
  go_wp2
  go_ret
  exact ⟨rfl, Below.refl _ _⟩
theorem eqT_any (a1 a2 : Option Addr) (c1 c2 : Nat) (es fs : List E) (w : World) (h1 : Trs w a1 es) (h2 : Trs w a2 fs) (hlen : es.length ≤ 1000000) (hp : ∀ e ∈ es, e.p.length ≤ 1000000) :
    Calls Try.prog 52 #[.slice a1 es.length c1, .slice a2 fs.length c2, .func (.func 53) #[] #[]] w fun e w' => e = .returned (.bool (decide (tm es = tm fs))) ∧ Below w.heap.size w w' := by
  by_cases hn : es.length = fs.length
  · exact eqT_some a1 a2 c1 c2 es fs w _ h1 h2 hn hlen hp rfl
  · rw [decide_eq_false fun h => hn (tm_same h)]
    exact eqT_len a1 a2 c1 c2 _ _ _ w hn
set_option maxHeartbeats 3200000 in
theorem Same_ok (ao bo : Option Addr) (ca cb : Nat) (l m : List E) (w : World) (h : Trs w ao l) (h2 : Trs w bo m) (hv : vT (tm l) = 0) (hv2 : vT (tm m) = 0) :
    Calls Try.prog 28 #[.slice ao l.length ca, .slice bo m.length cb] w fun e w' => e = .returned (.tuple #[.bool (decide (plT (plo (tm l)) = plT (plo (tm m)))), .int .i64 0]) ∧ Below w.heap.size w w' := by
  have H := Lib.hid h
  have H2 := Lib.hid h2
  have HV1 := Lib.hid hv
  have HV2 := Lib.hid hv2
  obtain ⟨r, hr⟩ : ∃ r, r = decide (plT (plo (tm l)) = plT (plo (tm m))) := ⟨_, rfl⟩
  rw [← hr]
  have HR := Lib.hid hr
  clear h h2 hv hv2 hr
  go_enter Try.func28, Try.ntmps28
  go_wp2_with (fail)
  refine (readBoth_ok _ _ _ _ l m _ (H.out.later (by repeat (first | (with_reducible exact Below.refl _ _) | (with_reducible refine Below.setCell ?_ ?_ _) | (with_reducible refine Below.drew ?_) | (with_reducible refine Below.alloc ?_ ?_ _) | omega | (simp <;> omega)))) (H2.out.later (by repeat (first | (with_reducible exact Below.refl _ _) | (with_reducible refine Below.setCell ?_ ?_ _) | (with_reducible refine Below.drew ?_) | (with_reducible refine Below.alloc ?_ ?_ _) | omega | (simp <;> omega)))) HV1.out HV2.out).mono ?_
  rintro e w1 ⟨a1, c1, b1, d1, us, vs, rfl, ht, hu, hr, hr2, hw1⟩
  have HB1 : Hid (Below w.heap.size w w1) := Lib.hid (by repeat (first | (with_reducible exact Below.refl _ _) | (with_reducible refine Below.setCell ?_ ?_ _) | (with_reducible refine Below.drew ?_) | (with_reducible refine Below.alloc ?_ ?_ _) | (with_reducible refine Below.trans ?_ (Below.mono hw1 ?_)) | (with_reducible exact hw1.size) | omega | (simp <;> omega) | (simp <;> (have s := hw1.size; omega)) | (have s0 := hw1.size; (try simp at s0); (try simp); omega)))
  have HT := Lib.hid (show Tr3 w1 w.heap.size a1 us from ht.le (by simp <;> omega))
  have HU := Lib.hid (show Tr3 w1 w.heap.size b1 vs from hu.le (by simp <;> omega))
  have HK1 := Lib.hid ((okt_rd hr HV1.out).1.le (m := 16) (d := 1000000000) (by omega) (by omega))
  have HK2 := Lib.hid ((okt_rd hr2 HV2.out).1.le (m := 16) (d := 1000000000) (by omega) (by omega))
  have HP1 := Lib.hid (pl3_rd hr)
  have HP2 := Lib.hid (pl3_rd hr2)
  clear ht hu hr hr2 hw1
  go_wp2_with (fail)
  refine (plain_ok w.heap.size _ _ us _ HT.out (HB1.out.size) HK1.out).mono ?_
  rintro e w2 ⟨a2, c2, es, rfl, hes, htm, hw2⟩
  have HB2 := Lib.hid (HB1.out.trans (hw2.mono HB1.out.size))
  have hsm := es_small HK1.out htm
  have HU2 := Lib.hid (HU.out.later hw2)
  rw [HP1.out] at htm
  have HE := Lib.hid hes.o
  have HM := Lib.hid htm
  have HS := Lib.hid hsm
  clear hes htm hsm hw2 HU HT HB1
  go_wp2_with (fail)
  refine (plain_ok w.heap.size _ _ vs _ HU2.out (HB2.out.size) HK2.out).mono ?_
  rintro e w3 ⟨a3, c3, fs, rfl, hfs, htm, hw3⟩
  have HB3 := Lib.hid (HB2.out.trans (hw3.mono HB2.out.size))
  rw [HP2.out] at htm
  have HE := Lib.hid (HE.out.later hw3)
  have HF := Lib.hid hfs.o
  have hR : decide (tm es = tm fs) = r := by rw [HR.out, HM.out, htm]
  clear hfs hw3 HU2 HB2 HK1 HK2 HM htm
  have cE := eqT_any a2 a3 c2 c3 es fs w3 HE.out HF.out HS.out.1 HS.out.2
  rw [hR] at cE
  clear hR
  go_wp2_with (fail)
  refine cE.mono ?_
  rintro e w4 ⟨rfl, hw4⟩
  have HB4 := Lib.hid (HB3.out.trans (hw4.mono HB3.out.size))
  clear cE hw4
  go_wp2
  go_ret2
  exact ⟨rfl, HB4.out⟩
set_option maxHeartbeats 1600000 in
theorem Same_bad (ao bo : Option Addr) (ca cb : Nat) (l m : List E) (r : Int) (w : World) (h : Trs w ao l) (h2 : Trs w bo m) (hr : r = if vT (tm l) = 0 then vT (tm m) else vT (tm l)) (h0 : r ≠ 0) (hl : l.length ≤ 1000000) (hp : ∀ e ∈ l, e.p.length ≤ 1000000) (hm : m.length ≤ 1000000) (hq : ∀ e ∈ m, e.p.length ≤ 1000000) :
    Calls Try.prog 28 #[.slice ao l.length ca, .slice bo m.length cb] w fun e w' => e = .returned (.tuple #[.bool false, .int .i64 r]) ∧ Below w.heap.size w w' := by
  have cR := fun W h h2 => readBoth_bad ao bo ca cb l m r W h h2 hr h0 hl hp hm hq
  have q1 : (r != 0) = true := by simpa using h0
  have H := Lib.hid h
  have H2 := Lib.hid h2
  clear h h2 h0 hr
  go_enter Try.func28, Try.ntmps28
  go_wp2_with (fail)
  refine (cR _ (H.out.later (by repeat (first | (with_reducible exact Below.refl _ _) | (with_reducible refine Below.setCell ?_ ?_ _) | (with_reducible refine Below.drew ?_) | (with_reducible refine Below.alloc ?_ ?_ _) | omega | (simp <;> omega)))) (H2.out.later (by repeat (first | (with_reducible exact Below.refl _ _) | (with_reducible refine Below.setCell ?_ ?_ _) | (with_reducible refine Below.drew ?_) | (with_reducible refine Below.alloc ?_ ?_ _) | omega | (simp <;> omega))))).mono ?_
  rintro e w1 ⟨rfl, hw1⟩
  go_wp2
  go_ret2
  exact ⟨rfl, by repeat (first | (with_reducible exact Below.refl _ _) | (with_reducible refine Below.setCell ?_ ?_ _) | (with_reducible refine Below.drew ?_) | (with_reducible refine Below.alloc ?_ ?_ _) | (with_reducible refine Below.trans ?_ (Below.mono hw1 ?_)) | (with_reducible exact hw1.size) | omega | (simp <;> omega) | (simp <;> (have s := hw1.size; omega)) | (have s0 := hw1.size; (try simp at s0); (try simp); omega))⟩

/-! ### the document -/
set_option maxHeartbeats 3200000 in
theorem sameTerms_diff (ao bo : Option Addr) (ca cb : Nat) (l m : List E) (w : World) (h1 : Trs w ao l) (h2 : Trs w bo m) (hl : l.length ≤ 1000000) (hp : ∀ e ∈ l, e.p.length ≤ 1000000) (hn : l.length = m.length) (he : ¬ tm l = tm m) :
    Calls Try.prog 21 #[.slice ao l.length ca, .slice bo m.length cb] w fun e w' => e = .returned (.bool false) ∧ Below w.heap.size w w' := by
  have H1 := Lib.hid h1
  have H2 := Lib.hid h2
  have HP := Lib.hid hp
  have hn' : ((l.length : Int) != (m.length : Int)) = false := by simp [hn]
  have HN := Lib.hid hn
  have HE := Lib.hid he
  clear h1 h2 he hp hn
  have kc := @Tail.cell_re
  have kc1 : ∀ (W : World) (o : Obj) (d : Nat) (os : Array Obj) (a : Addr), a.block ≤ W.heap.size → (Sort.grow (redrawn (W.alloc o) d) os).cell? a = (W.alloc o).cell? a := fun W o d os a h => Tail.cell_re (W.alloc o) d os a (Nat.lt_of_le_of_lt h (by simp))
  go_enter Try.func21, Try.ntmps21
  go_wp2
  go_loopw [5] (fun q wr => ∃ k : Nat, k ≤ l.length ∧ q = .int .i64 k ∧ Hid (∀ (j : Nat) (h1 : j < l.length) (h2 : j < m.length), j < k → l[j].c = m[j].c ∧ l[j].p = m[j].p) ∧ Below w.heap.size w wr) (fun q _ => l.length - (intOf q).toNat)
  case atStart => exact ⟨0, by omega, rfl, Lib.hid (fun j _ _ h => by omega), Below.refl _ _⟩
  case round =>
    obtain ⟨k, hk, rfl, ha, hb⟩ := hrel
    by_cases hlt : k < l.length
    · have i1 : (k : Int) < (l.length : Int) := by omega
      have hlt2 : k < m.length := by have := HN.out; omega
      have i2 : (k : Int) < (m.length : Int) := by omega
      obtain ⟨b1, o1, rfl, x0, x1, hx⟩ := (H1.out.later hb).at_ hlt
      obtain ⟨b2, o2, rfl, y0, y1, hy⟩ := (H2.out.later hb).at_ hlt2
      have hpl := HP.out _ (List.getElem_mem hlt)
      have lb1 := World.block_lt_of_cell? wr _ x0
      have lb2 := World.block_lt_of_cell? wr _ y0
      have hok := fun (e : l[k].c = m[k].c ∧ l[k].p = m[k].p) (j : Nat) (g1 : j < l.length) (g2 : j < m.length) (g : j < k + 1) => (show l[j].c = m[j].c ∧ l[j].p = m[j].p from by
        by_cases he : j < k
        · exact ha.out j g1 g2 he
        · obtain rfl : j = k := by omega
          exact e)
      have cS := fun (d : Nat) (os : Array Obj) => sameInts_any (l[k]'hlt).a (m[k]'hlt2).a (l[k]'hlt).k (m[k]'hlt2).k (l[k]'hlt).p (m[k]'hlt2).p (grow (redrawn wr d) os) (hx.later (below_regrown wr d os)) (hy.later (below_regrown wr d os)) hpl
      by_cases hc : (l[k]'hlt).c = (m[k]'hlt2).c
      · by_cases hq : (l[k]'hlt).p = (m[k]'hlt2).p
        · rw [decide_eq_true hq] at cS
          have HOK := Lib.hid (hok ⟨hc, hq⟩)
          rw [← hc] at y0
          generalize (l[k]'hlt).c = c at *
          generalize (l[k]'hlt).p = p at *
          generalize (m[k]'hlt2).p = q at *
          generalize (l[k]'hlt).a = pa at *
          generalize (l[k]'hlt).k = pk at *
          generalize (m[k]'hlt2).a = qa at *
          generalize (m[k]'hlt2).k = qk at *
          clear hx hy hok hc hq ha
          go_wp2
          refine Tail.region_below (by kernel_rfl) (by kernel_rfl) ?_
          repeat (go_big_quiet_step (first | (with_reducible exact Calls.regrown_of (cS _ _))))
          refine wpQuiet_nil ?_
          intro w1 hw1
          clear cS
          go_wp2
          exact ⟨⟨k + 1, by omega, by go_num, HOK, by repeat (first | (with_reducible exact Below.refl _ _) | (with_reducible refine Below.setCell ?_ ?_ _) | (with_reducible refine Below.drew ?_) | (with_reducible refine Below.alloc ?_ ?_ _) | (with_reducible refine Below.trans ?_ (Below.mono hw1 ?_)) | (with_reducible refine Below.trans ?_ (Below.mono hb ?_)) | (with_reducible exact hw1.size) | (with_reducible exact hb.size) | omega | (simp <;> omega) | (simp <;> (have s := hw1.size; omega)) | (simp <;> (have s := hb.size; omega)) | (have s0 := hw1.size; (try simp at s0); have s1 := hb.size; (try simp at s1); (try simp); omega))⟩, by simp [intOf]; omega⟩
        · rw [decide_eq_false hq] at cS
          rw [← hc] at y0
          generalize (l[k]'hlt).c = c at *
          generalize (l[k]'hlt).p = p at *
          generalize (m[k]'hlt2).p = q at *
          generalize (l[k]'hlt).a = pa at *
          generalize (l[k]'hlt).k = pk at *
          generalize (m[k]'hlt2).a = qa at *
          generalize (m[k]'hlt2).k = qk at *
          clear hx hy hok hc hq ha
          go_wp2
          refine Tail.region_below (by kernel_rfl) (by kernel_rfl) ?_
          repeat (go_big_quiet_step (first | (with_reducible exact Calls.regrown_of (cS _ _))))
          refine wpQuiet_nil ?_
          intro w1 hw1
          clear cS
          go_wp2
          go_ret
          exact ⟨rfl, by repeat (first | (with_reducible exact Below.refl _ _) | (with_reducible refine Below.setCell ?_ ?_ _) | (with_reducible refine Below.drew ?_) | (with_reducible refine Below.alloc ?_ ?_ _) | (with_reducible refine Below.trans ?_ (Below.mono hw1 ?_)) | (with_reducible refine Below.trans ?_ (Below.mono hb ?_)) | (with_reducible exact hw1.size) | (with_reducible exact hb.size) | omega | (simp <;> omega) | (simp <;> (have s := hw1.size; omega)) | (simp <;> (have s := hb.size; omega)) | (have s0 := hw1.size; (try simp at s0); have s1 := hb.size; (try simp at s1); (try simp); omega))⟩
      · have q1 : ((l[k]'hlt).c != (m[k]'hlt2).c) = true := by simpa using hc
        generalize (l[k]'hlt).c = c at *
        generalize (m[k]'hlt2).c = d at *
        generalize (l[k]'hlt).p = p at *
        generalize (m[k]'hlt2).p = q at *
        generalize (l[k]'hlt).a = pa at *
        generalize (l[k]'hlt).k = pk at *
        generalize (m[k]'hlt2).a = qa at *
        generalize (m[k]'hlt2).k = qk at *
        clear hx hy hok hc ha cS
        go_wp2
        refine Tail.region_below (by kernel_rfl) (by kernel_rfl) ?_
        repeat (go_big_quiet_step (fail))
        refine wpQuiet_nil ?_
        intro w1 hw1
        go_wp2
        go_ret
        exact ⟨rfl, by repeat (first | (with_reducible exact Below.refl _ _) | (with_reducible refine Below.setCell ?_ ?_ _) | (with_reducible refine Below.drew ?_) | (with_reducible refine Below.alloc ?_ ?_ _) | (with_reducible refine Below.trans ?_ (Below.mono hw1 ?_)) | (with_reducible refine Below.trans ?_ (Below.mono hb ?_)) | (with_reducible exact hw1.size) | (with_reducible exact hb.size) | omega | (simp <;> omega) | (simp <;> (have s := hw1.size; omega)) | (simp <;> (have s := hb.size; omega)) | (have s0 := hw1.size; (try simp at s0); have s1 := hb.size; (try simp at s1); (try simp); omega))⟩
    · obtain rfl : l.length = k := by omega
      exact absurd ((tm_eq_iff HN.out).2 fun j h1 h2 => ha.out j h1 h2 h1) HE.out
set_option maxHeartbeats 3200000 in
theorem sameTerms_any (ao bo : Option Addr) (ca cb : Nat) (l m : List E) (w : World) (h1 : Trs w ao l) (h2 : Trs w bo m) (hl : l.length ≤ 1000000) (hp : ∀ e ∈ l, e.p.length ≤ 1000000) (hm : m.length ≤ 1000000) :
    Calls Try.prog 21 #[.slice ao l.length ca, .slice bo m.length cb] w fun e w' => e = .returned (.bool (decide (tm l = tm m))) ∧ Below w.heap.size w w' := by
  by_cases he : tm l = tm m
  · rw [decide_eq_true he]
    exact sameTerms_true ao bo ca cb l m w h1 h2 he hl hp
  rw [decide_eq_false he]
  by_cases hn : l.length = m.length
  · exact sameTerms_diff ao bo ca cb l m w h1 h2 hl hp hn he
  · have hn' : ((l.length : Int) != (m.length : Int)) = true := by simp; omega
    have j2 : (m.length : Int) ≤ 1000000 := by omega
    clear he hn
    go_enter Try.func21, Try.ntmps21
    go_wp2
    go_ret
    exact ⟨rfl, Below.refl _ _⟩
set_option maxHeartbeats 3200000 in
theorem refSame_ok (ao bo : Option Addr) (ca cb : Nat) (l m : List E) (w : World) (h : Trs w ao l) (h2 : Trs w bo m) (hv : vT (tm l) = 0) (hv2 : vT (tm m) = 0) :
    Calls Try.prog 29 #[.slice ao l.length ca, .slice bo m.length cb] w fun e w' => e = .returned (.tuple #[.bool (decide (plT (plo (tm l)) = plT (plo (tm m)))), .int .i64 0]) ∧ Below w.heap.size w w' := by
  obtain ⟨hl, hs⟩ := vT_small hv
  obtain ⟨hm, hq⟩ := vT_small hv2
  have H := Lib.hid h
  have H2 := Lib.hid h2
  have cV := fun W h1 h2 => both_any ao bo ca cb l m W h1 h2 (by omega) (fun e he => by have := (hs e he).1; omega) (by omega) (fun e he => by have := (hq e he).1; omega)
  rw [show bothR l m = 0 by unfold bothR; rw [if_pos hv]; exact hv2] at cV
  have c1 := fun W h => collect_any ao ca l W h hl hs
  have c2 := fun W h => collect_any bo cb m W h hm hq
  have hsm1 := fun es => es_small2 (es := es) hs hl
  have hsm2 := fun es => es_small2 (es := es) hq hm
  have HS1 := Lib.hid hsm1
  have HS2 := Lib.hid hsm2
  obtain ⟨r, hr⟩ : ∃ r, r = decide (plT (plo (tm l)) = plT (plo (tm m))) := ⟨_, rfl⟩
  rw [← hr]
  have HR := Lib.hid hr
  clear h h2 hv hv2 hr hs hq hsm1 hsm2
  go_enter Try.func29, Try.ntmps29
  go_wp2_with (fail)
  refine (cV _ (H.out.later (by repeat (first | (with_reducible exact Below.refl _ _) | (with_reducible refine Below.setCell ?_ ?_ _) | (with_reducible refine Below.drew ?_) | (with_reducible refine Below.alloc ?_ ?_ _) | omega | (simp <;> omega)))) (H2.out.later (by repeat (first | (with_reducible exact Below.refl _ _) | (with_reducible refine Below.setCell ?_ ?_ _) | (with_reducible refine Below.drew ?_) | (with_reducible refine Below.alloc ?_ ?_ _) | omega | (simp <;> omega))))).mono ?_
  rintro e w1 ⟨rfl, hw1⟩
  have hb1 : Below w.heap.size w w1 := by repeat (first | (with_reducible exact Below.refl _ _) | (with_reducible refine Below.setCell ?_ ?_ _) | (with_reducible refine Below.drew ?_) | (with_reducible refine Below.alloc ?_ ?_ _) | (with_reducible refine Below.trans ?_ (Below.mono hw1 ?_)) | (with_reducible exact hw1.size) | omega | (simp <;> omega) | (simp <;> (have s := hw1.size; omega)) | (have s0 := hw1.size; (try simp at s0); (try simp); omega))
  clear cV hw1
  go_wp2_with (fail)
  refine (c1 _ (H.out.later hb1)).mono ?_
  rintro e w2 ⟨a2, k2, es, rfl, hes, htm, hw2⟩
  have hb2 := hb1.trans (hw2.mono hb1.size)
  have hsm := HS1.out es htm
  have HE := Lib.hid hes
  have HM := Lib.hid htm
  clear c1 hw2 hes htm
  go_wp2_with (fail)
  refine (c2 _ (H2.out.later hb2)).mono ?_
  rintro e w3 ⟨a3, k3, fs, rfl, hfs, htm, hw3⟩
  have hb3 := hb2.trans (hw3.mono hb2.size)
  have hsm2 := HS2.out fs htm
  have HE := Lib.hid (HE.out.later hw3)
  have hR : decide (tm es = tm fs) = r := by rw [HR.out, HM.out, htm]
  have cE := sameTerms_any a2 a3 k2 k3 es fs w3 HE.out hfs hsm.1 hsm.2 hsm2.1
  rw [hR] at cE
  clear c2 hw3 hfs htm hR hsm hsm2
  go_wp2_with (fail)
  refine cE.mono ?_
  rintro e w4 ⟨rfl, hw4⟩
  have hb4 := hb3.trans (hw4.mono hb3.size)
  clear cE hw4
  go_wp2
  go_ret2
  exact ⟨rfl, hb4⟩
set_option maxHeartbeats 1600000 in
theorem refSame_bad (ao bo : Option Addr) (ca cb : Nat) (l m : List E) (w : World) (h : Trs w ao l) (h2 : Trs w bo m) (h0 : bothR l m ≠ 0) (hl : l.length ≤ 1000000) (hp : ∀ e ∈ l, e.p.length ≤ 1000000) (hm : m.length ≤ 1000000) (hq : ∀ e ∈ m, e.p.length ≤ 1000000) :
    Calls Try.prog 29 #[.slice ao l.length ca, .slice bo m.length cb] w fun e w' => e = .returned (.tuple #[.bool false, .int .i64 (bothR l m)]) ∧ Below w.heap.size w w' := by
  have H := Lib.hid h
  have H2 := Lib.hid h2
  have cV := fun W h1 h2 => both_any ao bo ca cb l m W h1 h2 hl hp hm hq
  generalize bothR l m = r at *
  have q1 : (r != 0) = true := by simpa using h0
  clear h h2 h0 hp hq
  go_enter Try.func29, Try.ntmps29
  go_wp2_with (fail)
  refine (cV _ (H.out.later (by repeat (first | (with_reducible exact Below.refl _ _) | (with_reducible refine Below.setCell ?_ ?_ _) | (with_reducible refine Below.drew ?_) | (with_reducible refine Below.alloc ?_ ?_ _) | omega | (simp <;> omega)))) (H2.out.later (by repeat (first | (with_reducible exact Below.refl _ _) | (with_reducible refine Below.setCell ?_ ?_ _) | (with_reducible refine Below.drew ?_) | (with_reducible refine Below.alloc ?_ ?_ _) | omega | (simp <;> omega))))).mono ?_
  rintro e w1 ⟨rfl, hw1⟩
  go_wp2
  go_ret2
  exact ⟨rfl, by repeat (first | (with_reducible exact Below.refl _ _) | (with_reducible refine Below.setCell ?_ ?_ _) | (with_reducible refine Below.drew ?_) | (with_reducible refine Below.alloc ?_ ?_ _) | (with_reducible refine Below.trans ?_ (Below.mono hw1 ?_)) | (with_reducible exact hw1.size) | omega | (simp <;> omega) | (simp <;> (have s := hw1.size; omega)) | (have s0 := hw1.size; (try simp at s0); (try simp); omega))⟩
end Go.Proofs.Ytjidbajcnomceaa
