/- Plain forms, sums and multiples of sums of loops, as the program makes them.
Conditions: those written at each theorem. -/
import Derived.Test.YtjidbajcnomceaaLoopQ
import Derived.Test.YtjidbajcnomceaaLoopU
namespace Go.Proofs.Ytjidbajcnomceaa
set_option linter.unusedVariables false
set_option linter.unusedSimpArgs false
set_option maxRecDepth 1000000
open Go.RowKit
open Um Tm Lm

/-- terms with their plain paths -/
def plo (l : List Trm) : List Trm := l.map fun t => (t.1, plL t.2)
theorem pl3_rd {ts : List T3} {l : List Trm} (h : tm3 ts = rdT l) : pl3 ts = plo l := by
  have e1 : pl3 ts = (tm3 ts).map fun t => (t.1, plp t.2) := by simp [pl3, tm3, Function.comp_def]
  rw [e1, h]
  simp [rdT, plo, plp, plL, Function.comp_def]
/-- what a function that makes a sum answers -/
def RetP (B : Nat) (L : List Trm) (e : Ending) (w' : World) : Prop :=
  (vT (plT L) = 0 ∧ ∃ a c, ∃ es : List E, e = .returned (.tuple #[.slice a es.length c, .int .i64 0]) ∧ TrsN w' B a es ∧ tm es = plT L) ∨ (vT (plT L) ≠ 0 ∧ e = .returned (.tuple #[.slice none 0 0, .int .i64 3]))
structure Okt (n : Nat) (c : Int) (ts : List T3) : Prop where
  len : ts.length ≤ 10000
  p : ∀ t ∈ ts, t.p.length ≤ n ∧ (∀ s ∈ t.p, IsStep s) ∧ -c ≤ t.c ∧ t.c ≤ c
theorem okt_rd {ts : List T3} {l : List Trm} (h : tm3 ts = rdT l) (hv : vT l = 0) : Okt 8 1000 ts ∧ ts.length = l.length := by
  have hok := vT_ok hv
  have hlen : ts.length = l.length := by
    have := congrArg List.length h
    simpa [tm3, rdT] using this
  refine ⟨⟨by omega, fun t ht => ?_⟩, hlen⟩
  have hm : (t.c, t.p) ∈ rdT l := by rw [← h]; exact List.mem_map.2 ⟨t, ht, rfl⟩
  obtain ⟨x, hx, he⟩ := List.mem_map.1 hm
  simp only [Prod.mk.injEq] at he
  obtain ⟨e1, e2⟩ := he
  obtain ⟨h1, h2, h3⟩ := hok.2 x hx
  rw [← e1, ← e2]
  exact ⟨Nat.le_trans (red_len _) h2, red_steps h3, h1.1, h1.2⟩
theorem plain_ok (B : Nat) (ao : Option Addr) (cap : Nat) (ts : List T3) (w : World) (h : Tr3 w B ao ts) (hB : B ≤ w.heap.size) (ho : Okt 16 1000000000 ts) :
    Calls Try.prog 43 #[.slice ao ts.length cap] w fun e w' => ∃ a c, ∃ es : List E, e = .returned (.slice a es.length c) ∧ TrsN w' B a es ∧ tm es = plT (pl3 ts) ∧ Below w.heap.size w w' :=
  plain_any B ao cap ts w h hB (fun t ht => ho.p t ht) ho.len
theorem Okt.le {n m : Nat} {c d : Int} {ts : List T3} (h : Okt n c ts) (hn : n ≤ m) (hc : c ≤ d) : Okt m d ts :=
  ⟨h.len, fun t ht => by obtain ⟨h1, h2, h3, h4⟩ := h.p t ht; exact ⟨by omega, h2, by omega, by omega⟩⟩
theorem es_small {ts : List T3} {es : List E} (h : Okt 16 1000000000 ts) (he : tm es = plT (pl3 ts)) : es.length ≤ 1000000 ∧ ∀ e ∈ es, e.p.length ≤ 1000000 := by
  have h1 := plT_len (pl3 ts)
  rw [← he, tm_len, pl3_len] at h1
  refine ⟨by have := h.len; omega, fun e hem => ?_⟩
  have hm : (e.c, e.p) ∈ plT (pl3 ts) := by rw [← he]; exact List.mem_map.2 ⟨e, hem, rfl⟩
  obtain ⟨t, ht, hp⟩ := coll_path (List.mem_filter.1 hm).1
  obtain ⟨x, hx, rfl⟩ := List.mem_map.1 ht
  simp only at hp
  rw [hp, plp_len]
  have := (h.p x hx).1
  omega
theorem limited_ok (B : Nat) (ao : Option Addr) (cap : Nat) (l : List E) (w : World) (h : TrsN w B ao l) (hl : l.length ≤ 1000000 ∧ ∀ e ∈ l, e.p.length ≤ 1000000) (hv : vT (tm l) = 0) : Calls Try.prog 42 #[.slice ao l.length cap] w fun e w' => e = .returned (.tuple #[.slice ao l.length cap, .int .i64 0]) ∧ TrsN w' B ao l ∧ Below w.heap.size w w' := by
  have := limited_any B ao cap l w h hl.1 hl.2
  simpa only [if_pos hv] using this
theorem limited_no (B : Nat) (ao : Option Addr) (cap : Nat) (l : List E) (w : World) (h : TrsN w B ao l) (hl : l.length ≤ 1000000 ∧ ∀ e ∈ l, e.p.length ≤ 1000000) (hv : vT (tm l) ≠ 0) : Calls Try.prog 42 #[.slice ao l.length cap] w fun e w' => e = .returned (.tuple #[.slice none 0 0, .int .i64 3]) ∧ TrsN w' B ao l ∧ Below w.heap.size w w' := by
  have := limited_any B ao cap l w h hl.1 hl.2
  simpa only [if_neg hv] using this

set_option maxHeartbeats 3200000 in
theorem Plain_ok (ao : Option Addr) (cap : Nat) (l : List E) (w : World) (h : Trs w ao l) (hv : vT (tm l) = 0) :
    Calls Try.prog 17 #[.slice ao l.length cap] w fun e w' => RetP w.heap.size (plo (tm l)) e w' ∧ Below w.heap.size w w' := by
  have H := Lib.hid h
  have HV0 := Lib.hid hv
  clear h hv
  go_enter Try.func17, Try.ntmps17
  go_wp2_with (fail)
  refine (read_ok _ _ l _ (H.out.later (by repeat (first | (with_reducible exact Below.refl _ _) | (with_reducible refine Below.setCell ?_ ?_ _) | (with_reducible refine Below.drew ?_) | (with_reducible refine Below.alloc ?_ ?_ _) | omega | (simp <;> omega)))) HV0.out).mono ?_
  rintro e w1 ⟨a1, c1, ts, rfl, ht, hr, hw1⟩
  have HB1 : Hid (Below w.heap.size w w1) := Lib.hid (by repeat (first | (with_reducible exact Below.refl _ _) | (with_reducible refine Below.setCell ?_ ?_ _) | (with_reducible refine Below.drew ?_) | (with_reducible refine Below.alloc ?_ ?_ _) | (with_reducible refine Below.trans ?_ (Below.mono hw1 ?_)) | (with_reducible exact hw1.size) | omega | (simp <;> omega) | (simp <;> (have s := hw1.size; omega)) | (have s0 := hw1.size; (try simp at s0); (try simp); omega)))
  have HT1 : Hid (Tr3 w1 w.heap.size a1 ts) := Lib.hid (ht.le (by simp <;> omega))
  have HK : Hid (Okt 16 1000000000 ts) := Lib.hid ((okt_rd hr HV0.out).1.le (by omega) (by omega))
  have HPL := Lib.hid (pl3_rd hr)
  clear ht hr hw1
  go_wp2_with (fail)
  refine (plain_ok w.heap.size _ _ ts _ HT1.out (HB1.out.size) HK.out).mono ?_
  rintro e w2 ⟨a2, c2, es, rfl, hes, htm, hw2⟩
  have HB2 := Lib.hid (HB1.out.trans (hw2.mono HB1.out.size))
  have hsm := es_small HK.out htm
  rw [HPL.out] at htm
  have HE := Lib.hid hes
  have HM := Lib.hid htm
  have HS := Lib.hid hsm
  clear hes htm hsm hw2
  by_cases hv : vT (plT (plo (tm l))) = 0
  · have HV := Lib.hid hv
    clear hv
    go_wp2_with (fail)
    refine (limited_ok w.heap.size _ _ es _ HE.out HS.out (by rw [HM.out]; exact HV.out)).mono ?_
    rintro e w3 ⟨rfl, hte, hw3⟩
    have HE2 := Lib.hid hte
    have HB3 := Lib.hid (HB2.out.trans (hw3.mono HB2.out.size))
    clear hte hw3
    go_wp2
    go_ret2
    exact ⟨.inl ⟨HV.out, a2, c2, es, rfl, HE2.out, HM.out⟩, HB3.out⟩
  · have HV := Lib.hid hv
    clear hv
    go_wp2_with (fail)
    refine (limited_no w.heap.size _ _ es _ HE.out HS.out (by rw [HM.out]; exact HV.out)).mono ?_
    rintro e w3 ⟨rfl, -, hw3⟩
    have HB3 := Lib.hid (HB2.out.trans (hw3.mono HB2.out.size))
    clear hw3
    go_wp2
    go_ret2
    exact ⟨.inr ⟨HV.out, rfl⟩, HB3.out⟩

set_option maxHeartbeats 1600000 in
theorem Plain_bad (ao : Option Addr) (cap : Nat) (l : List E) (r : Int) (w : World) (h : Trs w ao l) (hr : vT (tm l) = r) (h0 : r ≠ 0) (hl : l.length ≤ 1000000) (hp : ∀ e ∈ l, e.p.length ≤ 1000000) :
    Calls Try.prog 17 #[.slice ao l.length cap] w fun e w' => e = .returned (.tuple #[.slice none 0 0, .int .i64 r]) ∧ Below w.heap.size w w' := by
  have cR := fun W h => read_bad ao cap l W h (by rw [hr]; exact h0) hl hp
  rw [hr] at cR
  have q1 : (r != 0) = true := by simpa using h0
  have H := Lib.hid h
  clear h h0 hr
  go_enter Try.func17, Try.ntmps17
  go_wp2_with (fail)
  refine (cR _ (H.out.later (by repeat (first | (with_reducible exact Below.refl _ _) | (with_reducible refine Below.setCell ?_ ?_ _) | (with_reducible refine Below.drew ?_) | (with_reducible refine Below.alloc ?_ ?_ _) | omega | (simp <;> omega))))).mono ?_
  rintro e w1 ⟨rfl, hw1⟩
  go_wp2
  go_ret2
  exact ⟨rfl, by repeat (first | (with_reducible exact Below.refl _ _) | (with_reducible refine Below.setCell ?_ ?_ _) | (with_reducible refine Below.drew ?_) | (with_reducible refine Below.alloc ?_ ?_ _) | (with_reducible refine Below.trans ?_ (Below.mono hw1 ?_)) | (with_reducible exact hw1.size) | omega | (simp <;> omega) | (simp <;> (have s := hw1.size; omega)) | (have s0 := hw1.size; (try simp at s0); (try simp); omega))⟩

set_option maxHeartbeats 3200000 in
theorem Add_ok (ao bo : Option Addr) (ca cb : Nat) (l m : List E) (w : World) (h : Trs w ao l) (h2 : Trs w bo m) (hv : vT (tm l) = 0) (hv2 : vT (tm m) = 0) :
    Calls Try.prog 22 #[.slice ao l.length ca, .slice bo m.length cb] w fun e w' => RetP w.heap.size (plo (tm l ++ tm m)) e w' ∧ Below w.heap.size w w' := by
  have H := Lib.hid h
  have H2 := Lib.hid h2
  have HV1 := Lib.hid hv
  have HV2 := Lib.hid hv2
  clear h h2 hv hv2
  go_enter Try.func22, Try.ntmps22
  go_wp2_with (fail)
  refine (readBoth_ok _ _ _ _ l m _ (H.out.later (by repeat (first | (with_reducible exact Below.refl _ _) | (with_reducible refine Below.setCell ?_ ?_ _) | (with_reducible refine Below.drew ?_) | (with_reducible refine Below.alloc ?_ ?_ _) | omega | (simp <;> omega)))) (H2.out.later (by repeat (first | (with_reducible exact Below.refl _ _) | (with_reducible refine Below.setCell ?_ ?_ _) | (with_reducible refine Below.drew ?_) | (with_reducible refine Below.alloc ?_ ?_ _) | omega | (simp <;> omega)))) HV1.out HV2.out).mono ?_
  rintro e w1 ⟨a1, c1, b1, d1, us, vs, rfl, ht, hu, hr, hr2, hw1⟩
  have HB1 : Hid (Below w.heap.size w w1) := Lib.hid (by repeat (first | (with_reducible exact Below.refl _ _) | (with_reducible refine Below.setCell ?_ ?_ _) | (with_reducible refine Below.drew ?_) | (with_reducible refine Below.alloc ?_ ?_ _) | (with_reducible refine Below.trans ?_ (Below.mono hw1 ?_)) | (with_reducible exact hw1.size) | omega | (simp <;> omega) | (simp <;> (have s := hw1.size; omega)) | (have s0 := hw1.size; (try simp at s0); (try simp); omega)))
  have HT := Lib.hid (show Tr3 w1 w.heap.size a1 us from ht.le (by simp <;> omega))
  have HU := Lib.hid (show Tr3 w1 w.heap.size b1 vs from hu.le (by simp <;> omega))
  have k1 := okt_rd hr HV1.out
  have k2 := okt_rd hr2 HV2.out
  have HR1 := Lib.hid hr
  have HR2 := Lib.hid hr2
  have HK1 := Lib.hid k1
  have HK2 := Lib.hid k2
  have l1 : us.length ≤ 10000 := k1.1.len
  have l2 : vs.length ≤ 10000 := k2.1.len
  clear ht hu hr hr2 hw1 k1 k2
  go_wp2_with (fail)
  have g0 : (w1.alloc (.cells #[.slice a1 us.length c1, .slice b1 vs.length d1] 67)).cell? ⟨w1.heap.size, 0, none⟩ = some (.slice a1 us.length c1) := by simp [go_sem]
  have g1 : (w1.alloc (.cells #[.slice a1 us.length c1, .slice b1 vs.length d1] 67)).cell? ⟨w1.heap.size, 1, none⟩ = some (.slice b1 vs.length d1) := by simp [go_sem]
  refine (concatT_any w.heap.size w1.heap.size a1 b1 c1 d1 us vs _ g0 g1 (HT.out.later (by repeat (first | (with_reducible exact Below.refl _ _) | (with_reducible refine Below.setCell ?_ ?_ _) | (with_reducible refine Below.drew ?_) | (with_reducible refine Below.alloc ?_ ?_ _) | omega | (simp <;> omega)))) (HU.out.later (by repeat (first | (with_reducible exact Below.refl _ _) | (with_reducible refine Below.setCell ?_ ?_ _) | (with_reducible refine Below.drew ?_) | (with_reducible refine Below.alloc ?_ ?_ _) | omega | (simp <;> omega)))) (by have := HB1.out.size; simp; omega) l1 l2).mono ?_
  rintro e w2 ⟨a2, c2, rfl, hts, hw2⟩
  obtain ⟨ts, hts'⟩ : ∃ ts, ts = us ++ vs := ⟨_, rfl⟩
  have hk : Okt 16 1000000000 ts := by
    have h1 := HK1.out
    have h2 := HK2.out
    have e1 := vT_ok HV1.out
    have e2 := vT_ok HV2.out
    rw [hts']
    refine ⟨by rw [List.length_append, h1.2, h2.2]; omega, fun t ht => ?_⟩
    rcases List.mem_append.1 ht with h | h
    · exact ((h1.1.le (m := 16) (d := 1000000000) (by omega) (by omega)).p t h)
    · exact ((h2.1.le (m := 16) (d := 1000000000) (by omega) (by omega)).p t h)
  have hpl : pl3 ts = plo (tm l ++ tm m) := by
    rw [hts']
    have e1 := pl3_rd HR1.out
    have e2 := pl3_rd HR2.out
    unfold pl3 plo at *
    rw [List.map_append, List.map_append, e1, e2]
  rw [← hts'] at hts ⊢
  have HT2 := Lib.hid hts
  have HK := Lib.hid hk
  have HPL := Lib.hid hpl
  have hb1 := HB1.out
  have HB2 : Hid (Below w.heap.size w w2) := Lib.hid (by repeat (first | (with_reducible exact Below.refl _ _) | (with_reducible refine Below.setCell ?_ ?_ _) | (with_reducible refine Below.drew ?_) | (with_reducible refine Below.alloc ?_ ?_ _) | (with_reducible refine Below.trans ?_ (Below.mono hw2 ?_)) | (with_reducible refine Below.trans ?_ (Below.mono hb1 ?_)) | (with_reducible exact hw2.size) | (with_reducible exact hb1.size) | omega | (simp <;> omega) | (simp <;> (have s := hw2.size; omega)) | (simp <;> (have s := hb1.size; omega)) | (have s0 := hw2.size; (try simp at s0); have s1 := hb1.size; (try simp at s1); (try simp); omega)))
  clear hts hk hpl hts' hw2 g0 g1 hb1 HT HU HK1 HK2 HR1 HR2
  go_wp2_with (fail)
  refine (plain_ok w.heap.size _ _ ts _ HT2.out (HB2.out.size) HK.out).mono ?_
  rintro e w3 ⟨a3, c3, es, rfl, hes, htm, hw3⟩
  have HB3 := Lib.hid (HB2.out.trans (hw3.mono HB2.out.size))
  have hsm := es_small HK.out htm
  rw [HPL.out] at htm
  have HE := Lib.hid hes
  have HM := Lib.hid htm
  have HS := Lib.hid hsm
  clear hes htm hsm hw3
  by_cases hv : vT (plT (plo (tm l ++ tm m))) = 0
  · have HV := Lib.hid hv
    clear hv
    go_wp2_with (fail)
    refine (limited_ok w.heap.size _ _ es _ HE.out HS.out (by rw [HM.out]; exact HV.out)).mono ?_
    rintro e w4 ⟨rfl, hte, hw4⟩
    have HE2 := Lib.hid hte
    have HB4 := Lib.hid (HB3.out.trans (hw4.mono HB3.out.size))
    clear hte hw4
    go_wp2
    go_ret2
    exact ⟨.inl ⟨HV.out, a3, c3, es, rfl, HE2.out, HM.out⟩, HB4.out⟩
  · have HV := Lib.hid hv
    clear hv
    go_wp2_with (fail)
    refine (limited_no w.heap.size _ _ es _ HE.out HS.out (by rw [HM.out]; exact HV.out)).mono ?_
    rintro e w4 ⟨rfl, -, hw4⟩
    have HB4 := Lib.hid (HB3.out.trans (hw4.mono HB3.out.size))
    clear hw4
    go_wp2
    go_ret2
    exact ⟨.inr ⟨HV.out, rfl⟩, HB4.out⟩

set_option maxHeartbeats 1600000 in
theorem Add_bad (ao bo : Option Addr) (ca cb : Nat) (l m : List E) (r : Int) (w : World) (h : Trs w ao l) (h2 : Trs w bo m) (hr : r = if vT (tm l) = 0 then vT (tm m) else vT (tm l)) (h0 : r ≠ 0) (hl : l.length ≤ 1000000) (hp : ∀ e ∈ l, e.p.length ≤ 1000000) (hm : m.length ≤ 1000000) (hq : ∀ e ∈ m, e.p.length ≤ 1000000) :
    Calls Try.prog 22 #[.slice ao l.length ca, .slice bo m.length cb] w fun e w' => e = .returned (.tuple #[.slice none 0 0, .int .i64 r]) ∧ Below w.heap.size w w' := by
  have cR := fun W h h2 => readBoth_bad ao bo ca cb l m r W h h2 hr h0 hl hp hm hq
  have q1 : (r != 0) = true := by simpa using h0
  have H := Lib.hid h
  have H2 := Lib.hid h2
  clear h h2 h0 hr
  go_enter Try.func22, Try.ntmps22
  go_wp2_with (fail)
  refine (cR _ (H.out.later (by repeat (first | (with_reducible exact Below.refl _ _) | (with_reducible refine Below.setCell ?_ ?_ _) | (with_reducible refine Below.drew ?_) | (with_reducible refine Below.alloc ?_ ?_ _) | omega | (simp <;> omega)))) (H2.out.later (by repeat (first | (with_reducible exact Below.refl _ _) | (with_reducible refine Below.setCell ?_ ?_ _) | (with_reducible refine Below.drew ?_) | (with_reducible refine Below.alloc ?_ ?_ _) | omega | (simp <;> omega))))).mono ?_
  rintro e w1 ⟨rfl, hw1⟩
  go_wp2
  go_ret2
  exact ⟨rfl, by repeat (first | (with_reducible exact Below.refl _ _) | (with_reducible refine Below.setCell ?_ ?_ _) | (with_reducible refine Below.drew ?_) | (with_reducible refine Below.alloc ?_ ?_ _) | (with_reducible refine Below.trans ?_ (Below.mono hw1 ?_)) | (with_reducible exact hw1.size) | omega | (simp <;> omega) | (simp <;> (have s := hw1.size; omega)) | (have s0 := hw1.size; (try simp at s0); (try simp); omega))⟩

theorem Scale_bad (ao : Option Addr) (cap : Nat) (l : List E) (k r : Int) (w : World) (h : Trs w ao l) (hr : vT (tm l) = r) (h0 : r ≠ 0) (hl : l.length ≤ 1000000) (hp : ∀ e ∈ l, e.p.length ≤ 1000000) :
    Calls Try.prog 24 #[.slice ao l.length cap, .int .i64 k] w fun e w' => e = .returned (.tuple #[.slice none 0 0, .int .i64 r]) ∧ Below w.heap.size w w' := by
  have cR := fun W h => read_bad ao cap l W h (by rw [hr]; exact h0) hl hp
  rw [hr] at cR
  have q1 : (r != 0) = true := by simpa using h0
  have H := Lib.hid h
  clear h h0 hr
  go_enter Try.func24, Try.ntmps24
  go_wp2_with (fail)
  refine (cR _ (H.out.later (by repeat (first | (with_reducible exact Below.refl _ _) | (with_reducible refine Below.setCell ?_ ?_ _) | (with_reducible refine Below.drew ?_) | (with_reducible refine Below.alloc ?_ ?_ _) | omega | (simp <;> omega))))).mono ?_
  rintro e w1 ⟨rfl, hw1⟩
  go_wp2
  go_ret2
  exact ⟨rfl, by repeat (first | (with_reducible exact Below.refl _ _) | (with_reducible refine Below.setCell ?_ ?_ _) | (with_reducible refine Below.drew ?_) | (with_reducible refine Below.alloc ?_ ?_ _) | (with_reducible refine Below.trans ?_ (Below.mono hw1 ?_)) | (with_reducible exact hw1.size) | omega | (simp <;> omega) | (simp <;> (have s := hw1.size; omega)) | (have s0 := hw1.size; (try simp at s0); (try simp); omega))⟩
set_option maxHeartbeats 1600000 in
theorem Scale_arg (ao : Option Addr) (cap : Nat) (l : List E) (k : Int) (w : World) (h : Trs w ao l) (hv : vT (tm l) = 0) (hk : ¬ okC k) :
    Calls Try.prog 24 #[.slice ao l.length cap, .int .i64 k] w fun e w' => e = .returned (.tuple #[.slice none 0 0, .int .i64 1]) ∧ Below w.heap.size w w' := by
  have cR := fun W h => read_ok ao cap l W h hv
  have cC := fun W => isCoef_no k W hk
  have H := Lib.hid h
  clear h hv hk
  go_enter Try.func24, Try.ntmps24
  go_wp2_with (fail)
  refine (cR _ (H.out.later (by repeat (first | (with_reducible exact Below.refl _ _) | (with_reducible refine Below.setCell ?_ ?_ _) | (with_reducible refine Below.drew ?_) | (with_reducible refine Below.alloc ?_ ?_ _) | omega | (simp <;> omega))))).mono ?_
  rintro e w1 ⟨a1, c1, ts, rfl, -, -, hw1⟩
  go_wp2_with (fail)
  refine (cC _).mono ?_
  rintro e w2 ⟨rfl, hw2⟩
  go_wp2
  go_ret2
  exact ⟨rfl, by repeat (first | (with_reducible exact Below.refl _ _) | (with_reducible refine Below.setCell ?_ ?_ _) | (with_reducible refine Below.drew ?_) | (with_reducible refine Below.alloc ?_ ?_ _) | (with_reducible refine Below.trans ?_ (Below.mono hw2 ?_)) | (with_reducible refine Below.trans ?_ (Below.mono hw1 ?_)) | (with_reducible exact hw2.size) | (with_reducible exact hw1.size) | omega | (simp <;> omega) | (simp <;> (have s := hw2.size; omega)) | (simp <;> (have s := hw1.size; omega)) | (have s0 := hw2.size; (try simp at s0); have s1 := hw1.size; (try simp at s1); (try simp); omega))⟩
/-- terms of which the first ones are multiplied -/
def mulT (k : Int) (i : Nat) (ts : List T3) : List T3 := ts.mapIdx fun j t => if j < i then { t with c := t.c * k } else t
theorem mulT_len (k : Int) (i : Nat) (ts : List T3) : (mulT k i ts).length = ts.length := by simp [mulT]
theorem mulT_zero (k : Int) (ts : List T3) : mulT k 0 ts = ts := by
  unfold mulT
  apply List.ext_getElem?
  intro j
  simp
theorem mulT_get (k : Int) (i : Nat) (ts : List T3) (h : i < ts.length) : (mulT k i ts)[i]? = some ts[i] := by
  unfold mulT
  rw [List.getElem?_mapIdx, List.getElem?_eq_getElem h]
  simp
theorem mulT_set (k : Int) (i : Nat) (ts : List T3) (h : i < ts.length) : (mulT k i ts).set i { ts[i] with c := ts[i].c * k } = mulT k (i + 1) ts := by
  unfold mulT
  apply List.ext_getElem?
  intro j
  rw [List.getElem?_set]
  by_cases hj : i = j
  · subst hj
    rw [if_pos rfl, if_pos (by simpa using h), List.getElem?_mapIdx, List.getElem?_eq_getElem h]
    simp
  · rw [if_neg hj, List.getElem?_mapIdx, List.getElem?_mapIdx]
    cases ts[j]? with
    | none => rfl
    | some t =>
      simp only [Option.map_some]
      congr 1
      by_cases h1 : j < i
      · rw [if_pos h1, if_pos (by omega)]
      · rw [if_neg h1, if_neg (by omega)]
theorem mulT_all (k : Int) (ts : List T3) : mulT k ts.length ts = ts.map fun t => { t with c := t.c * k } := by
  unfold mulT
  apply List.ext_getElem?
  intro j
  rw [List.getElem?_mapIdx, List.getElem?_map]
  cases hj : ts[j]? with
  | none => rfl
  | some t =>
    have : j < ts.length := (List.getElem?_eq_some_iff.1 hj).1
    simp [this]
theorem flat_set (ts : List T3) (i : Nat) (x : T3) (h : i < ts.length) (hx : tc x = (tc ts[i]).set 0 (.int .i64 x.c)) : (ts.flatMap tc).set (i * 3) (.int .i64 x.c) = (ts.set i x).flatMap tc := by
  induction ts generalizing i with
  | nil => simp at h
  | cons t ts ih =>
    cases i with
    | zero =>
      simp only [List.set_cons_zero, List.flatMap_cons, Nat.zero_mul]
      rw [List.set_append_left _ _ (by rw [tc_len]; omega), hx]
      rfl
    | succ i =>
      simp only [List.set_cons_succ, List.flatMap_cons]
      rw [List.set_append_right _ _ (by rw [tc_len]; omega), tc_len, show (i + 1) * 3 - 3 = i * 3 by omega]
      rw [ih i (by simpa using h) (by simpa using hx)]
set_option maxHeartbeats 6400000 in
theorem Scale_ok (ao : Option Addr) (cap : Nat) (l : List E) (k : Int) (w : World) (h : Trs w ao l) (hv : vT (tm l) = 0) (hk : okC k) :
    Calls Try.prog 24 #[.slice ao l.length cap, .int .i64 k] w fun e w' => RetP w.heap.size (plo ((tm l).map fun t => (t.1 * k, t.2))) e w' ∧ Below w.heap.size w w' := by
  have cR := fun W h => read_own ao cap l W h hv
  have cC := fun W => isCoef_yes k W hk
  obtain ⟨k1, k2⟩ := hk
  have H := Lib.hid h
  have HV0 := Lib.hid hv
  clear h hv
  go_enter Try.func24, Try.ntmps24
  go_wp2_with (fail)
  refine (cR _ (H.out.later (by repeat (first | (with_reducible exact Below.refl _ _) | (with_reducible refine Below.setCell ?_ ?_ _) | (with_reducible refine Below.drew ?_) | (with_reducible refine Below.alloc ?_ ?_ _) | omega | (simp <;> omega))))).mono ?_
  rintro e w1 ⟨g, c1, us, rfl, ho, hg, ht, hr, hw1⟩
  have HO := Lib.hid ho
  have HT := Lib.hid ht
  have HB1 : Hid (Below w.heap.size w w1) := Lib.hid (by repeat (first | (with_reducible exact Below.refl _ _) | (with_reducible refine Below.setCell ?_ ?_ _) | (with_reducible refine Below.drew ?_) | (with_reducible refine Below.alloc ?_ ?_ _) | (with_reducible refine Below.trans ?_ (Below.mono hw1 ?_)) | (with_reducible exact hw1.size) | omega | (simp <;> omega) | (simp <;> (have s := hw1.size; omega)) | (have s0 := hw1.size; (try simp at s0); (try simp); omega)))
  have hg0 : w.heap.size ≤ g := Nat.le_trans (by simp <;> omega) hg
  have HR := Lib.hid hr
  have hkr := okt_rd hr HV0.out
  have HKR := Lib.hid hkr
  have hul : us.length ≤ 10000 := hkr.1.len
  clear ho ht hr hw1 cR hg hkr
  go_wp2_with (fail)
  refine (cC _).mono ?_
  rintro e w2 ⟨rfl, hw2⟩
  have HO2 := Lib.hid (owned_later HO.out hw2)
  have HT2 := Lib.hid (HT.out.later hw2)
  have HB2 := Lib.hid (HB1.out.trans (hw2.mono HB1.out.size))
  have s2 := hw2.size
  clear HO HT hw2 cC
  go_wp2
  go_loopw [8, 22] (fun _ q wr => ∃ i : Nat, i ≤ us.length ∧ q = .int .i64 i ∧ Hid (wr.ownsRow g 77 3 (.slice (some ⟨g, 0, none⟩) us.length c1) us.length ((mulT k i us).flatMap tc)) ∧ Hid (T3N wr (g + 1) us) ∧ Below w.heap.size w wr) (fun _ q _ => us.length - (intOf q).toNat)
  case atStart => exact ⟨0, by omega, rfl, Lib.hid (by rw [mulT_zero]; exact HO2.out), HT2, HB2.out⟩
  case round =>
    obtain ⟨i, hi, rfl, HO, HT, hb⟩ := hrel
    clear HO2 HT2 HB2 s2
    by_cases hlt : i < us.length
    · have i1 : (i : Int) < (us.length : Int) := by omega
      have hko := HKR.out.1.p _ (List.getElem_mem hlt)
      have hg1 := mulT_get k i us hlt
      have hst := mulT_set k i us hlt
      have hcell := (HO.out.cellAt (i * 3) (by omega)).trans (flat_get tc 3 tc_len (mulT k i us) i us[i] hg1 0 (by omega))
      have hfree := HO.out.frozenAt (i * 3)
      have hsto := HO.out.stored (i * 3) (.int .i64 (us[i].c * k))
      have hfs := flat_set (mulT k i us) i { us[i] with c := us[i].c * k } (by rw [mulT_len]; exact hlt) (by
        have e : (mulT k i us)[i]'(by rw [mulT_len]; exact hlt) = us[i] := by
          have := hg1
          rw [List.getElem?_eq_getElem (by rw [mulT_len]; exact hlt)] at this
          simpa using this
        rw [e]
        rfl)
      simp only at hfs
      rw [hfs, hst] at hsto
      obtain ⟨hO2, hG2⟩ := hsto
      obtain ⟨-, -, b1, b2⟩ := hko
      have hx : (tc us[i])[0]? = some (.int .i64 us[i].c) := rfl
      rw [hx] at hcell
      have hmb := HKR.out.1.p _ (List.getElem_mem hlt)
      have m1 : -1000000 ≤ us[i].c * k ∧ us[i].c * k ≤ 1000000 := by
        have h1 : us[i].c.natAbs ≤ 1000 := by omega
        have h2 : k.natAbs ≤ 1000 := by omega
        have h3 := Nat.mul_le_mul h1 h2
        rw [← Int.natAbs_mul] at h3
        omega
      generalize us[i].c = c at *
      have HOO := Lib.hid hO2
      have HGG := Lib.hid hG2
      obtain ⟨m1, m2⟩ := m1
      clear hg1 hst hfs hO2 hG2 hmb hx HO
      go_wp2
      exact ⟨⟨i + 1, by omega, by go_num, HOO, Lib.hid (HT.out.grown HGG.out (by omega)), hb.grown HGG.out hb.size (fun j hj => by simp at hj; omega)⟩, by simp [intOf]; omega⟩
    · obtain rfl : us.length = i := by omega
      obtain ⟨w3, rfl⟩ : ∃ w3 : World, w3 = wr := ⟨_, rfl⟩
      have HB3 := Lib.hid hb
      have e1 := mulT_all k us
      have hr : RowsN 3 tc w3 w.heap.size (some ⟨g, 0, none⟩) (mulT k us.length us) := .inr ⟨g, 0, rfl, hg0, owned_rows (l := mulT k us.length us) tc_len (by rw [mulT_len]; exact HO.out)⟩
      have ht : T3N w3 w.heap.size (mulT k us.length us) := fun e he => by
        rw [e1] at he
        obtain ⟨t, ht, rfl⟩ := List.mem_map.1 he
        exact (HT.out.le (by omega)) t ht
      have HT3 := Lib.hid (Tr3.mk hr ht)
      have hk : Okt 16 1000000000 (mulT k us.length us) := ⟨by rw [mulT_len]; exact hul, fun e he => by
        rw [e1] at he
        obtain ⟨t, ht, rfl⟩ := List.mem_map.1 he
        obtain ⟨h1, h2, h3, h4⟩ := HKR.out.1.p t ht
        have h5 : t.c.natAbs ≤ 1000 := by omega
        have h6 : k.natAbs ≤ 1000 := by omega
        have h7 := Nat.mul_le_mul h5 h6
        rw [← Int.natAbs_mul] at h7
        exact ⟨by simp only; omega, h2, by simp only; omega, by simp only; omega⟩⟩
      have HK := Lib.hid hk
      have hpl : pl3 (mulT k us.length us) = plo ((tm l).map fun t => (t.1 * k, t.2)) := by
        have e2 := pl3_rd HR.out
        rw [e1]
        have e3 : pl3 (us.map fun t => { t with c := t.c * k }) = (pl3 us).map fun t => (t.1 * k, t.2) := by simp [pl3, Function.comp_def]
        rw [e3, e2]
        simp [plo, Function.comp_def]
      have HPL := Lib.hid hpl
      have cP := fun W h hB => plain_ok w.heap.size (some ⟨g, 0, none⟩) c1 (mulT k us.length us) W h hB HK.out
      rw [mulT_len] at cP
      clear hb e1 hr ht hk hpl HO HT
      go_wp2_with (fail)
      refine (cP _ HT3.out HB3.out.size).mono ?_
      rintro e w4 ⟨a4, c4, es, rfl, hes, htm, hw4⟩
      have HB4 := Lib.hid (HB3.out.trans (hw4.mono HB3.out.size))
      have hsm := es_small HK.out htm
      rw [HPL.out] at htm
      have HE := Lib.hid hes
      have HM := Lib.hid htm
      have HS := Lib.hid hsm
      clear hes htm hsm hw4
      by_cases hv : vT (plT (plo ((tm l).map fun t => (t.1 * k, t.2)))) = 0
      · have HV := Lib.hid hv
        clear hv
        go_wp2_with (fail)
        refine (limited_ok w.heap.size _ _ es _ HE.out HS.out (by rw [HM.out]; exact HV.out)).mono ?_
        rintro e w5 ⟨rfl, hte, hw5⟩
        have HE2 := Lib.hid hte
        have HB5 := Lib.hid (HB4.out.trans (hw5.mono HB4.out.size))
        clear hte hw5
        go_wp2
        go_ret2
        exact ⟨.inl ⟨HV.out, a4, c4, es, rfl, HE2.out, HM.out⟩, HB5.out⟩
      · have HV := Lib.hid hv
        clear hv
        go_wp2_with (fail)
        refine (limited_no w.heap.size _ _ es _ HE.out HS.out (by rw [HM.out]; exact HV.out)).mono ?_
        rintro e w5 ⟨rfl, -, hw5⟩
        have HB5 := Lib.hid (HB4.out.trans (hw5.mono HB4.out.size))
        clear hw5
        go_wp2
        go_ret2
        exact ⟨.inr ⟨HV.out, rfl⟩, HB5.out⟩
end Go.Proofs.Ytjidbajcnomceaa
