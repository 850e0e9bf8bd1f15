/- Plain forms, sums and comparisons of sums of loops, as the document makes them.
Conditions: those written at each theorem. -/
import Derived.Test.YtjidbajcnomceaaLoopZ
namespace Go.Proofs.Ytjidbajcnomceaa
set_option linter.unusedVariables false
set_option linter.unusedSimpArgs false
set_option maxRecDepth 1000000
open Go.RowKit Go.Sort
open Um Tm Lm

theorem tm_same {l m : List E} (h : tm l = tm m) : l.length = m.length := by
  have := congrArg List.length h
  simpa [tm_len] using this
theorem tm_same_at {l m : List E} (h : tm l = tm m) (k : Nat) (h1 : k < l.length) (h2 : k < m.length) : l[k].c = m[k].c ∧ l[k].p = m[k].p := by
  have h3 : (tm l)[k]? = (tm m)[k]? := by rw [h]
  unfold tm at h3
  rw [List.getElem?_map, List.getElem?_map, List.getElem?_eq_getElem h1, List.getElem?_eq_getElem h2] at h3
  simpa using h3
set_option maxHeartbeats 3200000 in
theorem sameTerms_true (ao bo : Option Addr) (ca cb : Nat) (l m : List E) (w : World) (h1 : Trs w ao l) (h2 : Trs w bo m) (he : tm l = tm m) (hl : l.length ≤ 1000000) (hp : ∀ e ∈ l, e.p.length ≤ 1000000) :
    Calls Try.prog 21 #[.slice ao l.length ca, .slice bo m.length cb] w fun e w' => e = .returned (.bool true) ∧ Below w.heap.size w w' := by
  have hn := tm_same he
  have H1 := Lib.hid h1
  have H2 := Lib.hid h2
  have HE := Lib.hid he
  have HP := Lib.hid hp
  have hn' : ((l.length : Int) != (m.length : Int)) = false := by simp [hn]
  have HN := Lib.hid hn
  clear h1 h2 he hp hn
  have kc := @Tail.cell_re
  have kc1 : ∀ (W : World) (o : Obj) (d : Nat) (os : Array Obj) (a : Addr), a.block ≤ W.heap.size → (Sort.grow (redrawn (W.alloc o) d) os).cell? a = (W.alloc o).cell? a := fun W o d os a h => Tail.cell_re (W.alloc o) d os a (Nat.lt_of_le_of_lt h (by simp))
  go_enter Try.func21, Try.ntmps21
  go_wp2
  go_loopw [5] (fun q wr => ∃ k : Nat, k ≤ l.length ∧ q = .int .i64 k ∧ Below w.heap.size w wr) (fun q _ => l.length - (intOf q).toNat)
  case atStart => exact ⟨0, by omega, rfl, Below.refl _ _⟩
  case round =>
    obtain ⟨k, hk, rfl, hb⟩ := hrel
    by_cases hlt : k < l.length
    · have i1 : (k : Int) < (l.length : Int) := by omega
      have hlt2 : k < m.length := by have := HN.out; omega
      have i2 : (k : Int) < (m.length : Int) := by omega
      obtain ⟨b1, o1, rfl, x0, x1, hx⟩ := (H1.out.later hb).at_ hlt
      obtain ⟨b2, o2, rfl, y0, y1, hy⟩ := (H2.out.later hb).at_ hlt2
      obtain ⟨e1, e2⟩ := tm_same_at HE.out k hlt hlt2
      have hpl := HP.out _ (List.getElem_mem hlt)
      have lb1 := World.block_lt_of_cell? wr _ x0
      have lb2 := World.block_lt_of_cell? wr _ y0
      rw [← e1] at y0
      rw [← e2] at y1 hy
      have cS := fun (d : Nat) (os : Array Obj) => sameInts_any (l[k]'hlt).a (m[k]'hlt2).a (l[k]'hlt).k (m[k]'hlt2).k (l[k]'hlt).p (l[k]'hlt).p (grow (redrawn wr d) os) (hx.later (below_regrown wr d os)) (hy.later (below_regrown wr d os)) hpl
      rw [decide_eq_true rfl] at cS
      generalize (l[k]'hlt).c = c at *
      generalize (l[k]'hlt).p = p at *
      generalize (l[k]'hlt).a = pa at *
      generalize (l[k]'hlt).k = pk at *
      generalize (m[k]'hlt2).a = qa at *
      generalize (m[k]'hlt2).k = qk at *
      clear hx hy e1 e2
      go_wp2
      refine Tail.region_below (by kernel_rfl) (by kernel_rfl) ?_
      repeat (go_big_quiet_step (first | (with_reducible exact Calls.regrown_of (cS _ _))))
      refine wpQuiet_nil ?_
      intro w1 hw1
      clear cS
      go_wp2
      exact ⟨⟨k + 1, by omega, by go_num, by repeat (first | (with_reducible exact Below.refl _ _) | (with_reducible refine Below.setCell ?_ ?_ _) | (with_reducible refine Below.drew ?_) | (with_reducible refine Below.alloc ?_ ?_ _) | (with_reducible refine Below.trans ?_ (Below.mono hw1 ?_)) | (with_reducible refine Below.trans ?_ (Below.mono hb ?_)) | (with_reducible exact hw1.size) | (with_reducible exact hb.size) | omega | (simp <;> omega) | (simp <;> (have s := hw1.size; omega)) | (simp <;> (have s := hb.size; omega)) | (have s0 := hw1.size; (try simp at s0); have s1 := hb.size; (try simp at s1); (try simp); omega))⟩, by simp [intOf]; omega⟩
    · obtain rfl : l.length = k := by omega
      go_wp2
      go_ret
      exact ⟨rfl, hb⟩

/-- what a function of the document that makes a sum answers -/
def RetD (L : List Trm) (e : Ending) (w' : World) : Prop :=
  (vT (plT L) = 0 ∧ ∃ a c, ∃ es : List E, e = .returned (.tuple #[.slice a es.length c, .int .i64 0]) ∧ Trs w' a es ∧ tm es = plT L) ∨ (vT (plT L) ≠ 0 ∧ e = .returned (.tuple #[.slice none 0 0, .int .i64 3]))
theorem es_small2 {l es : List E} (hs : ∀ e ∈ l, e.p.length ≤ 1000 ∧ ∀ s ∈ e.p, IsStep s) (hl : l.length ≤ 10000) (he : tm es = plT (plo (tm l))) : es.length ≤ 1000000 ∧ ∀ e ∈ es, e.p.length ≤ 1000000 := by
  have h1 := plT_len (plo (tm l))
  rw [← he, tm_len, plo_len] at h1
  refine ⟨by omega, fun e hem => ?_⟩
  have hm : (e.c, e.p) ∈ plT (plo (tm l)) := by rw [← he]; exact List.mem_map.2 ⟨e, hem, rfl⟩
  obtain ⟨t, ht, hp⟩ := coll_path (List.mem_filter.1 hm).1
  obtain ⟨y, hy, rfl⟩ := List.mem_map.1 ht
  obtain ⟨x, hx, rfl⟩ := List.mem_map.1 hy
  simp only at hp
  rw [hp, plL_len]
  have h2 := red_len x.p
  have h3 := (hs x hx).1
  omega
set_option maxHeartbeats 1600000 in
theorem told_any (ao : Option Addr) (cap : Nat) (l : List E) (w : World) (h : Trs w ao l) (hl : l.length ≤ 10000) (hs : ∀ e ∈ l, e.p.length ≤ 1000 ∧ ∀ s ∈ e.p, IsStep s) :
    Calls Try.prog 44 #[.slice ao l.length cap] w fun e w' => RetD (plo (tm l)) e w' ∧ Below w.heap.size w w' := by
  have H := Lib.hid h
  have cC := fun W h => collect_any ao cap l W h hl hs
  have hsm := fun es => es_small2 (es := es) hs hl
  have HSM := Lib.hid hsm
  clear h hs hsm
  unfold RetD
  generalize plT (plo (tm l)) = R at *
  go_enter Try.func44, Try.ntmps44
  go_wp2_with (fail)
  refine (cC _ (H.out.later (by repeat (first | (with_reducible exact Below.refl _ _) | (with_reducible refine Below.setCell ?_ ?_ _) | (with_reducible refine Below.drew ?_) | (with_reducible refine Below.alloc ?_ ?_ _) | omega | (simp <;> omega))))).mono ?_
  rintro e w1 ⟨a, c, es, rfl, hT, hm, hw1⟩
  have hb1 : Below w.heap.size w w1 := by repeat (first | (with_reducible exact Below.refl _ _) | (with_reducible refine Below.setCell ?_ ?_ _) | (with_reducible refine Below.drew ?_) | (with_reducible refine Below.alloc ?_ ?_ _) | (with_reducible refine Below.trans ?_ (Below.mono hw1 ?_)) | (with_reducible exact hw1.size) | omega | (simp <;> omega) | (simp <;> (have s := hw1.size; omega)) | (have s0 := hw1.size; (try simp at s0); (try simp); omega))
  have hsm := HSM.out es hm
  have cV := fun W h => refVT_any a c es W h hsm.1 hsm.2
  rw [hm] at cV
  have HT := Lib.hid hT
  have HM := Lib.hid hm
  clear hT hm hsm hw1 cC
  by_cases hv : vT R = 0
  · rw [hv] at cV
    have HV := Lib.hid hv
    clear hv
    go_wp2_with (fail)
    refine (cV _ HT.out).mono ?_
    rintro e w2 ⟨rfl, hw2⟩
    have hb2 := hb1.trans (hw2.mono hb1.size)
    have HT := Lib.hid (HT.out.later hw2)
    clear hw2
    go_wp2
    go_ret2
    exact ⟨.inl ⟨HV.out, a, c, es, rfl, HT.out, HM.out⟩, hb2⟩
  · have HV := Lib.hid hv
    obtain ⟨r, hr⟩ : ∃ r, r = vT R := ⟨_, rfl⟩
    rw [← hr] at cV hv
    have q1 : (r != 0) = true := by simpa using hv
    clear hv hr
    go_wp2_with (fail)
    refine (cV _ HT.out).mono ?_
    rintro e w2 ⟨rfl, hw2⟩
    have hb2 := hb1.trans (hw2.mono hb1.size)
    clear hw2
    go_wp2
    go_ret2
    exact ⟨.inr ⟨HV.out, rfl⟩, hb2⟩
/-- terms of a sum that is not refused -/
theorem vT_small {l : List E} (h : vT (tm l) = 0) : l.length ≤ 10000 ∧ ∀ e ∈ l, e.p.length ≤ 1000 ∧ ∀ s ∈ e.p, IsStep s := by
  obtain ⟨h1, h2⟩ := vT_ok h
  rw [tm_len] at h1
  refine ⟨by omega, fun e he => ?_⟩
  have := h2 (e.c, e.p) (List.mem_map.2 ⟨e, he, rfl⟩)
  exact ⟨by have := this.2.1; simp only at this; omega, this.2.2⟩
theorem vT_small2 {l : List E} (h : vT (tm l) = 0) : l.length ≤ 40 ∧ ∀ e ∈ l, (-1000 ≤ e.c ∧ e.c ≤ 1000) ∧ e.p.length ≤ 8 ∧ ∀ s ∈ e.p, IsStep s := by
  obtain ⟨h1, h2⟩ := vT_ok h
  rw [tm_len] at h1
  exact ⟨h1, fun e he => h2 (e.c, e.p) (List.mem_map.2 ⟨e, he, rfl⟩)⟩
theorem RetD.ex {L : List Trm} {e : Ending} {w' : World} (h : RetD L e w') : (∃ a c es, e = .returned (.tuple #[.slice a (List.length (α := E) es) c, .int .i64 0]) ∧ Hid (RetD L e w')) ∨ (e = .returned (.tuple #[.slice none 0 0, .int .i64 3]) ∧ Hid (RetD L e w')) := by
  have H := Lib.hid h
  rcases h with ⟨_, a, c, es, he, _⟩ | ⟨_, he⟩
  · exact .inl ⟨a, c, es, he, H⟩
  · exact .inr ⟨he, H⟩
set_option maxHeartbeats 1600000 in
theorem refPlain_ok (ao : Option Addr) (cap : Nat) (l : List E) (w : World) (h : Trs w ao l) (hv : vT (tm l) = 0) :
    Calls Try.prog 18 #[.slice ao l.length cap] w fun e w' => RetD (plo (tm l)) e w' ∧ Below w.heap.size w w' := by
  obtain ⟨hl, hs⟩ := vT_small hv
  have H := Lib.hid h
  have cV := fun W h => refVT_any ao cap l W h (by omega) (fun e he => by have := (hs e he).1; omega)
  have cT := fun W h => told_any ao cap l W h hl hs
  rw [hv] at cV
  clear h hs hv
  go_enter Try.func18, Try.ntmps18
  go_wp2_with (fail)
  refine (cV _ (H.out.later (by repeat (first | (with_reducible exact Below.refl _ _) | (with_reducible refine Below.setCell ?_ ?_ _) | (with_reducible refine Below.drew ?_) | (with_reducible refine Below.alloc ?_ ?_ _) | omega | (simp <;> omega))))).mono ?_
  rintro e w1 ⟨rfl, hw1⟩
  have hb1 : Below w.heap.size w w1 := by repeat (first | (with_reducible exact Below.refl _ _) | (with_reducible refine Below.setCell ?_ ?_ _) | (with_reducible refine Below.drew ?_) | (with_reducible refine Below.alloc ?_ ?_ _) | (with_reducible refine Below.trans ?_ (Below.mono hw1 ?_)) | (with_reducible exact hw1.size) | omega | (simp <;> omega) | (simp <;> (have s := hw1.size; omega)) | (have s0 := hw1.size; (try simp at s0); (try simp); omega))
  clear hw1
  go_wp2_with (fail)
  refine (cT _ (H.out.later hb1)).mono ?_
  rintro e w2 ⟨hr, hw2⟩
  have hb2 := hb1.trans (hw2.mono hb1.size)
  clear cV cT hw2
  rcases hr.ex with ⟨a, c, es, rfl, HR⟩ | ⟨rfl, HR⟩
  · clear hr
    go_wp2
    go_ret2
    exact ⟨HR.out, hb2⟩
  · clear hr
    go_wp2
    go_ret2
    exact ⟨HR.out, hb2⟩
set_option maxHeartbeats 1600000 in
theorem refPlain_bad (ao : Option Addr) (cap : Nat) (l : List E) (w : World) (h : Trs w ao l) (h0 : vT (tm l) ≠ 0) (hl : l.length ≤ 1000000) (hp : ∀ e ∈ l, e.p.length ≤ 1000000) :
    Calls Try.prog 18 #[.slice ao l.length cap] w fun e w' => e = .returned (.tuple #[.slice none 0 0, .int .i64 (vT (tm l))]) ∧ Below w.heap.size w w' := by
  have H := Lib.hid h
  have cV := fun W h => refVT_any ao cap l W h hl hp
  generalize vT (tm l) = r at *
  have q1 : (r != 0) = true := by simpa using h0
  clear h h0 hp
  go_enter Try.func18, Try.ntmps18
  go_wp2_with (fail)
  refine (cV _ (H.out.later (by repeat (first | (with_reducible exact Below.refl _ _) | (with_reducible refine Below.setCell ?_ ?_ _) | (with_reducible refine Below.drew ?_) | (with_reducible refine Below.alloc ?_ ?_ _) | omega | (simp <;> omega))))).mono ?_
  rintro e w1 ⟨rfl, hw1⟩
  go_wp2
  go_ret2
  exact ⟨rfl, by repeat (first | (with_reducible exact Below.refl _ _) | (with_reducible refine Below.setCell ?_ ?_ _) | (with_reducible refine Below.drew ?_) | (with_reducible refine Below.alloc ?_ ?_ _) | (with_reducible refine Below.trans ?_ (Below.mono hw1 ?_)) | (with_reducible exact hw1.size) | omega | (simp <;> omega) | (simp <;> (have s := hw1.size; omega)) | (have s0 := hw1.size; (try simp at s0); (try simp); omega))⟩
theorem info_two : (Try.prog.info? 37).map (fun i => (i.zero, i.size, i.bytes)) = some (some (.agg #[.int .i64 0, .slice none 0 0]), 2, 32) := info2T
set_option maxHeartbeats 1600000 in
theorem refAdd_ok (ao bo : Option Addr) (ca cb : Nat) (l m : List E) (w : World) (h : Trs w ao l) (h2 : Trs w bo m) (hv : vT (tm l) = 0) (hv2 : vT (tm m) = 0) :
    Calls Try.prog 23 #[.slice ao l.length ca, .slice bo m.length cb] w fun e w' => RetD (plo (tm l ++ tm m)) e w' ∧ Below w.heap.size w w' := by
  obtain ⟨hl, hs⟩ := vT_small hv
  obtain ⟨hm, hq⟩ := vT_small hv2
  have H := Lib.hid h
  have H2 := Lib.hid h2
  have cV := fun W h1 h2 => both_any ao bo ca cb l m W h1 h2 (by omega) (fun e he => by have := (hs e he).1; omega) (by omega) (fun e he => by have := (hq e he).1; omega)
  rw [show bothR l m = 0 by unfold bothR; rw [if_pos hv]; exact hv2] at cV
  have etm : tm l ++ tm m = tm (l ++ m) := by simp [tm]
  rw [etm]
  have hall : ∀ e ∈ l ++ m, e.p.length ≤ 1000 ∧ ∀ s ∈ e.p, IsStep s := fun e he => (List.mem_append.1 he).elim (hs e) (hq e)
  have hlen : (l ++ m).length ≤ 10000 := by
    have := (vT_small2 hv).1
    have := (vT_small2 hv2).1
    rw [List.length_append]; omega
  obtain ⟨lm, hlm⟩ : ∃ lm, lm = l ++ m := ⟨_, rfl⟩
  have hll : l.length + m.length ≤ 10000 := by rw [List.length_append] at hlen; exact hlen
  rw [← hlm] at hall hlen ⊢
  have HLM := Lib.hid hlm
  have HA := Lib.hid hall
  clear h h2 hs hq hv hv2 etm hall hlm
  go_enter Try.func23, Try.ntmps23
  go_wp2_with (fail)
  refine (cV _ (H.out.later (by repeat (first | (with_reducible exact Below.refl _ _) | (with_reducible refine Below.setCell ?_ ?_ _) | (with_reducible refine Below.drew ?_) | (with_reducible refine Below.alloc ?_ ?_ _) | omega | (simp <;> omega)))) (H2.out.later (by repeat (first | (with_reducible exact Below.refl _ _) | (with_reducible refine Below.setCell ?_ ?_ _) | (with_reducible refine Below.drew ?_) | (with_reducible refine Below.alloc ?_ ?_ _) | omega | (simp <;> omega))))).mono ?_
  rintro e w1 ⟨rfl, hw1⟩
  have hb1 : Below w.heap.size w w1 := by repeat (first | (with_reducible exact Below.refl _ _) | (with_reducible refine Below.setCell ?_ ?_ _) | (with_reducible refine Below.drew ?_) | (with_reducible refine Below.alloc ?_ ?_ _) | (with_reducible refine Below.trans ?_ (Below.mono hw1 ?_)) | (with_reducible exact hw1.size) | omega | (simp <;> omega) | (simp <;> (have s := hw1.size; omega)) | (have s0 := hw1.size; (try simp at s0); (try simp); omega))
  obtain ⟨Y, hY⟩ : ∃ Y, Y = w1.alloc (.cells #[] 37) := ⟨_, rfl⟩
  have ba : Below w1.heap.size w1 Y := by rw [hY]; exact (Below.refl _ _).alloc (Nat.le_refl _) _
  have hs1 : w1.heap.size ≤ Y.heap.size := ba.size
  obtain ⟨v1, X1, hr1, own1, gr1⟩ := run_append_E Y 29 w1.heap.size (.slice (some ⟨w1.heap.size, 0, none⟩) 0 0) 0 [] ao ca l (by rw [hY]; exact World.ownsRow_lit w1 #[] 0 (Nat.le_refl _) (by unfold maxLen; omega) (by simp)) (((H.out.later hb1).later ba).r) hs1 (by omega)
  have b1 : Below w1.heap.size w1 X1 := ba.grown gr1 hs1 (fun j hj => by simp [Value.ownBlock] at hj; omega)
  obtain ⟨v2, X2, hr2, own2, gr2⟩ := run_append_E X1 29 w1.heap.size v1 _ _ bo cb m own1 (((H2.out.later hb1).later b1).r) b1.size (by omega)
  have b2 : Below w1.heap.size w1 X2 := b1.grown gr2 b1.size (fun j hj => (own1.lt j hj).1)
  have e1 : 0 + l.length + m.length = (l ++ m).length := by simp
  have e2 : [] ++ l.flatMap ec ++ m.flatMap ec = (l ++ m).flatMap ec := by simp
  rw [e1, e2, ← HLM.out] at own2
  obtain ⟨a2, c2, rfl, hrow, -⟩ := owned_rowsN ec_len own2
  have hT : Trs X2 a2 lm := ⟨hrow.o, fun e he => by rw [HLM.out] at he; exact (List.mem_append.1 he).elim (((H.out.later hb1).later b2).p e) (((H2.out.later hb1).later b2).p e)⟩
  have HT := Lib.hid hT
  have hb2 := hb1.trans (b2.mono hb1.size)
  have cT := told_any a2 c2 lm X2 hT hlen HA.out
  rw [hY] at hr1
  clear hT hrow own1 own2 gr1 gr2 b1 b2 hw1 cV ba hY hs1 e1 e2 hb1
  go_wp2_with (first | (at_builtin; refine Lib.wpList_append_run_sl _ rfl (.tmp 13) (.tmp 14) 29 rfl _ _ rfl rfl hr1 ?_) | (at_builtin; refine Lib.wpList_append_run_sl _ rfl (.tmp 15) (.tmp 16) 29 rfl _ _ rfl rfl hr2 ?_))
  refine cT.mono ?_
  rintro e w2 ⟨hr, hw2⟩
  have hb3 := hb2.trans (hw2.mono hb2.size)
  clear cT hw2
  rcases hr.ex with ⟨a, c, es, rfl, HR⟩ | ⟨rfl, HR⟩
  · clear hr
    go_wp2
    go_ret2
    exact ⟨HR.out, hb3⟩
  · clear hr
    go_wp2
    go_ret2
    exact ⟨HR.out, hb3⟩
set_option maxHeartbeats 1600000 in
theorem refAdd_bad (ao bo : Option Addr) (ca cb : Nat) (l m : List E) (w : World) (h : Trs w ao l) (h2 : Trs w bo m) (h0 : bothR l m ≠ 0) (hl : l.length ≤ 1000000) (hp : ∀ e ∈ l, e.p.length ≤ 1000000) (hm : m.length ≤ 1000000) (hq : ∀ e ∈ m, e.p.length ≤ 1000000) :
    Calls Try.prog 23 #[.slice ao l.length ca, .slice bo m.length cb] w fun e w' => e = .returned (.tuple #[.slice none 0 0, .int .i64 (bothR l m)]) ∧ Below w.heap.size w w' := by
  have H := Lib.hid h
  have H2 := Lib.hid h2
  have cV := fun W h1 h2 => both_any ao bo ca cb l m W h1 h2 hl hp hm hq
  generalize bothR l m = r at *
  have q1 : (r != 0) = true := by simpa using h0
  clear h h2 h0 hp hq
  go_enter Try.func23, Try.ntmps23
  go_wp2_with (fail)
  refine (cV _ (H.out.later (by repeat (first | (with_reducible exact Below.refl _ _) | (with_reducible refine Below.setCell ?_ ?_ _) | (with_reducible refine Below.drew ?_) | (with_reducible refine Below.alloc ?_ ?_ _) | omega | (simp <;> omega)))) (H2.out.later (by repeat (first | (with_reducible exact Below.refl _ _) | (with_reducible refine Below.setCell ?_ ?_ _) | (with_reducible refine Below.drew ?_) | (with_reducible refine Below.alloc ?_ ?_ _) | omega | (simp <;> omega))))).mono ?_
  rintro e w1 ⟨rfl, hw1⟩
  go_wp2
  go_ret2
  exact ⟨rfl, by repeat (first | (with_reducible exact Below.refl _ _) | (with_reducible refine Below.setCell ?_ ?_ _) | (with_reducible refine Below.drew ?_) | (with_reducible refine Below.alloc ?_ ?_ _) | (with_reducible refine Below.trans ?_ (Below.mono hw1 ?_)) | (with_reducible exact hw1.size) | omega | (simp <;> omega) | (simp <;> (have s := hw1.size; omega)) | (have s0 := hw1.size; (try simp at s0); (try simp); omega))⟩
end Go.Proofs.Ytjidbajcnomceaa
