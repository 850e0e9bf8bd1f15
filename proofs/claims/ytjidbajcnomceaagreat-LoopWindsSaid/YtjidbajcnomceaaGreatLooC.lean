/- Plain forms, sums and multiples of sums of loops, as the program makes them.
Conditions: those written at each theorem. -/
import Derived.Test.YtjidbajcnomceaaGreatLooB
import Derived.Test.YtjidbajcnomceaaGreatLooA
namespace Go.Proofs.YtjidbajcnomceaaGreat
set_option linter.unusedVariables false
set_option linter.unusedSimpArgs false
set_option maxRecDepth 1000000
open Go.RowKit
open Um Tm Lm

/-- terms with their plain paths -/
def plo (l : List Trm) : List Trm := l.map fun t => (t.1, plL t.2)
theorem pl3_rd {ts : List T3} {l : List Trm} (h : tm3 ts = rdT l) : pl3 ts = plo l := by
  have e1 : pl3 ts = (tm3 ts).map fun t => (t.1, plp t.2) := by simp [pl3, tm3, Function.comp_def]
  rw [e1, h]
  simp [rdT, plo, plp, plL, Function.comp_def]
/-- what a function that makes a sum answers -/
def RetP (B : Nat) (L : List Trm) (e : Ending) (w' : World) : Prop :=
  (vT (plT L) = 0 ∧ ∃ a c, ∃ es : List E, e = .returned (.tuple #[.slice a es.length c, .int .i64 0]) ∧ TrsN w' B a es ∧ tm es = plT L) ∨ (vT (plT L) ≠ 0 ∧ e = .returned (.tuple #[.slice none 0 0, .int .i64 3]))
structure Okt (n : Nat) (c : Int) (ts : List T3) : Prop where
  len : ts.length ≤ 10000
  p : ∀ t ∈ ts, t.p.length ≤ n ∧ (∀ s ∈ t.p, IsStep s) ∧ -c ≤ t.c ∧ t.c ≤ c
theorem okt_rd {ts : List T3} {l : List Trm} (h : tm3 ts = rdT l) (hv : vT l = 0) : Okt 8 1000 ts ∧ ts.length = l.length := by
  have hok := vT_ok hv
  have hlen : ts.length = l.length := by
    have := congrArg List.length h
    simpa [tm3, rdT] using this
  refine ⟨⟨by omega, fun t ht => ?_⟩, hlen⟩
  have hm : (t.c, t.p) ∈ rdT l := by rw [← h]; exact List.mem_map.2 ⟨t, ht, rfl⟩
  obtain ⟨x, hx, he⟩ := List.mem_map.1 hm
  simp only [Prod.mk.injEq] at he
  obtain ⟨e1, e2⟩ := he
  obtain ⟨h1, h2, h3⟩ := hok.2 x hx
  rw [← e1, ← e2]
  exact ⟨Nat.le_trans (red_len _) h2, red_steps h3, h1.1, h1.2⟩
theorem plain_ok (B : Nat) (ao : Option Addr) (cap : Nat) (ts : List T3) (w : World) (h : Tr3 w B ao ts) (hB : B ≤ w.heap.size) (ho : Okt 16 1000000000 ts) :
    Calls Tryz.prog 88 #[.slice ao ts.length cap] w fun e w' => ∃ a c, ∃ es : List E, e = .returned (.slice a es.length c) ∧ TrsN w' B a es ∧ tm es = plT (pl3 ts) ∧ Below w.heap.size w w' :=
  plain_any B ao cap ts w h hB (fun t ht => ho.p t ht) ho.len
theorem Okt.le {n m : Nat} {c d : Int} {ts : List T3} (h : Okt n c ts) (hn : n ≤ m) (hc : c ≤ d) : Okt m d ts :=
  ⟨h.len, fun t ht => by obtain ⟨h1, h2, h3, h4⟩ := h.p t ht; exact ⟨by omega, h2, by omega, by omega⟩⟩
theorem es_small {ts : List T3} {es : List E} (h : Okt 16 1000000000 ts) (he : tm es = plT (pl3 ts)) : es.length ≤ 1000000 ∧ ∀ e ∈ es, e.p.length ≤ 1000000 := by
  have h1 := plT_len (pl3 ts)
  rw [← he, tm_len, pl3_len] at h1
  refine ⟨by have := h.len; omega, fun e hem => ?_⟩
  have hm : (e.c, e.p) ∈ plT (pl3 ts) := by rw [← he]; exact List.mem_map.2 ⟨e, hem, rfl⟩
  obtain ⟨t, ht, hp⟩ := coll_path (List.mem_filter.1 hm).1
  obtain ⟨x, hx, rfl⟩ := List.mem_map.1 ht
  simp only at hp
  rw [hp, plp_len]
  have := (h.p x hx).1
  omega
theorem limited_ok (B : Nat) (ao : Option Addr) (cap : Nat) (l : List E) (w : World) (h : TrsN w B ao l) (hl : l.length ≤ 1000000 ∧ ∀ e ∈ l, e.p.length ≤ 1000000) (hv : vT (tm l) = 0) : Calls Tryz.prog 87 #[.slice ao l.length cap] w fun e w' => e = .returned (.tuple #[.slice ao l.length cap, .int .i64 0]) ∧ TrsN w' B ao l ∧ Below w.heap.size w w' := by
  have := limited_any B ao cap l w h hl.1 hl.2
  simpa only [if_pos hv] using this
theorem limited_no (B : Nat) (ao : Option Addr) (cap : Nat) (l : List E) (w : World) (h : TrsN w B ao l) (hl : l.length ≤ 1000000 ∧ ∀ e ∈ l, e.p.length ≤ 1000000) (hv : vT (tm l) ≠ 0) : Calls Tryz.prog 87 #[.slice ao l.length cap] w fun e w' => e = .returned (.tuple #[.slice none 0 0, .int .i64 3]) ∧ TrsN w' B ao l ∧ Below w.heap.size w w' := by
  have := limited_any B ao cap l w h hl.1 hl.2
  simpa only [if_neg hv] using this

/-- terms of which the first ones are multiplied -/
def mulT (k : Int) (i : Nat) (ts : List T3) : List T3 := ts.mapIdx fun j t => if j < i then { t with c := t.c * k } else t
theorem mulT_len (k : Int) (i : Nat) (ts : List T3) : (mulT k i ts).length = ts.length := by simp [mulT]
theorem mulT_zero (k : Int) (ts : List T3) : mulT k 0 ts = ts := by
  unfold mulT
  apply List.ext_getElem?
  intro j
  simp
theorem mulT_get (k : Int) (i : Nat) (ts : List T3) (h : i < ts.length) : (mulT k i ts)[i]? = some ts[i] := by
  unfold mulT
  rw [List.getElem?_mapIdx, List.getElem?_eq_getElem h]
  simp
theorem mulT_set (k : Int) (i : Nat) (ts : List T3) (h : i < ts.length) : (mulT k i ts).set i { ts[i] with c := ts[i].c * k } = mulT k (i + 1) ts := by
  unfold mulT
  apply List.ext_getElem?
  intro j
  rw [List.getElem?_set]
  by_cases hj : i = j
  · subst hj
    rw [if_pos rfl, if_pos (by simpa using h), List.getElem?_mapIdx, List.getElem?_eq_getElem h]
    simp
  · rw [if_neg hj, List.getElem?_mapIdx, List.getElem?_mapIdx]
    cases ts[j]? with
    | none => rfl
    | some t =>
      simp only [Option.map_some]
      congr 1
      by_cases h1 : j < i
      · rw [if_pos h1, if_pos (by omega)]
      · rw [if_neg h1, if_neg (by omega)]
theorem mulT_all (k : Int) (ts : List T3) : mulT k ts.length ts = ts.map fun t => { t with c := t.c * k } := by
  unfold mulT
  apply List.ext_getElem?
  intro j
  rw [List.getElem?_mapIdx, List.getElem?_map]
  cases hj : ts[j]? with
  | none => rfl
  | some t =>
    have : j < ts.length := (List.getElem?_eq_some_iff.1 hj).1
    simp [this]
theorem flat_set (ts : List T3) (i : Nat) (x : T3) (h : i < ts.length) (hx : tc x = (tc ts[i]).set 0 (.int .i64 x.c)) : (ts.flatMap tc).set (i * 3) (.int .i64 x.c) = (ts.set i x).flatMap tc := by
  induction ts generalizing i with
  | nil => simp at h
  | cons t ts ih =>
    cases i with
    | zero =>
      simp only [List.set_cons_zero, List.flatMap_cons, Nat.zero_mul]
      rw [List.set_append_left _ _ (by rw [tc_len]; omega), hx]
      rfl
    | succ i =>
      simp only [List.set_cons_succ, List.flatMap_cons]
      rw [List.set_append_right _ _ (by rw [tc_len]; omega), tc_len, show (i + 1) * 3 - 3 = i * 3 by omega]
      rw [ih i (by simpa using h) (by simpa using hx)]
end Go.Proofs.YtjidbajcnomceaaGreat

/- Products of sums of loops, as the program makes them.
Conditions: those written at each theorem. -/
namespace Go.Proofs.YtjidbajcnomceaaGreat
set_option linter.unusedVariables false
set_option linter.unusedSimpArgs false
set_option maxRecDepth 1000000
open Go.RowKit
open Um Tm Lm

theorem step_append_fits {P : Program} {ops : Array Oper} {o : Oper} {a : Act} {w : World} {K : Act → World → Prop} {Q : Exit → Act → World → Prop} {E : Prop} (hgd : o.guard = none) (s x : Operand) (t : TypeId)
    (ho : o.op = .call { callee := .builtin .append, args := #[s, x], argTypes := #[t, t] })
    (base : Nat) (e : TypeId) (i : TypeInfo) (size : Nat) (h1 : P.underlying t = some (.slice e)) (h2 : P.info? e = some i) (h4 : i.size = size)
    (g k cap : Nat) (xs : List Value) (hs : a.eval s = .slice (some ⟨g, 0, none⟩) k cap) (hown : w.ownsRow base e size (.slice (some ⟨g, 0, none⟩) k cap) k xs) (ad : Addr) (m c : Nat) (news : List Value) (hx : a.eval x = .slice (some ad) m c) (hn : news.length = m * size)
    (hc : ∀ j u, news[j]? = some u → w.cell? (ad.add j) = some u) (h1c : ∀ u ∈ news, u.oneCell' = true) (b1 : k + m ≤ cap)
    (hK : ∀ w', w'.ownsRow base e size (.slice (some ⟨g, 0, none⟩) (k + m) cap) (k + m) (xs ++ news) → w.grownBy w' (some g) → K (a.put o.dst (.slice (some ⟨g, 0, none⟩) (k + m) cap)) w') :
    if Region.wanted o (yielded ops a.tmps) = true then Oper.wp P o a w K Q else E := by
  have hw : Region.wanted o (yielded ops a.tmps) = true := by simp [Region.wanted, hgd]
  rw [if_pos hw]
  obtain ⟨w', hrun, r1, r2⟩ := run_append_fits (P := P) w base t o.type e i size h1 h2 h4 g k cap xs hown ad m c news hn hc h1c b1
  unfold Oper.wp
  simp [execOp, ho, resolve, invoke, builtin, hs, hx, hrun, Result.andThen]
  exact hK _ r1 r2
theorem jnL_red {p q : List Int} (hp : red p = p) (hq : red q = q) : jnL p q = red (p ++ q) := by
  have h1 : p.reverse = redS p := by
    have := congrArg List.reverse hp
    rw [red, List.reverse_reverse] at this
    exact this.symm
  have h2 := jn_red p q
  rw [hq] at h2
  unfold jnL red
  rw [h1, h2]
/-- one reduced path behind the other, and the path from its end -/
theorem then_red (a1 b1 a2 b2 : Option Addr) (k1 m1 k2 m2 : Nat) (p q q' : List Int) (w : World) (hq' : q' = opp q) (h1 : LiesOI w a1 p) (h2 : LiesOI w b1 (opp p)) (h3 : LiesOI w a2 q) (h4 : LiesOI w b2 q') (hp : red p = p) (hq : red q = q) (s1 : ∀ t ∈ p, IsStep t) (s2 : ∀ t ∈ q, IsStep t)
    (l1 : p.length ≤ k1) (l2 : (opp p).length ≤ m1) (l3 : q.length ≤ k2) (l4 : q'.length ≤ m2) (n1 : p.length ≤ 8) (n3 : q.length ≤ 8) :
    Calls Tryz.prog 85 #[.agg #[.slice a1 p.length k1, .slice b1 (opp p).length m1], .agg #[.slice a2 q.length k2, .slice b2 q'.length m2]] w fun e w' => ∃ a b k m, e = .returned (.agg #[.slice a (red (p ++ q)).length k, .slice b (opp (red (p ++ q))).length m]) ∧ LiesNI w' w.heap.size a (red (p ++ q)) ∧ (red (p ++ q)).length ≤ k ∧ LiesNI w' w.heap.size b (opp (red (p ++ q))) ∧ (opp (red (p ++ q))).length ≤ m ∧ Below w.heap.size w w' := by
  subst hq'
  have e1 := jnL_red hp hq
  have e2 : jnL (opp q) (opp p) = opp (red (p ++ q)) := by
    rw [jnL_red (by rw [redS_opp, hq]) (by rw [redS_opp, hp]), ← opp_app, redS_opp]
  have := thenW_any a1 b1 a2 b2 k1 m1 k2 m2 p (opp p) q (opp q) w h1 h2 h3 h4 s2 (opp_steps s1) l1 l2 l3 l4 (by omega) (by rw [opp_len]; omega) (by omega) (by rw [opp_len]; omega)
  rw [e1, e2] at this
  exact this
/-- all products of two sums, as they are written -/
def rawP (A B : List Trm) : List Trm := A.flatMap fun a => B.flatMap fun b => [(a.1 * b.1, a.2 ++ b.2), (a.1 * b.1, a.2 ++ opp b.2)]
def pairs (u v : Trm) : List Trm := [(u.1 * v.1, u.2 ++ v.2), (u.1 * v.1, u.2 ++ opp v.2)]
theorem rawP_take (A B : List Trm) (i : Nat) (h : i < A.length) : rawP (A.take (i + 1)) B = rawP (A.take i) B ++ B.flatMap (pairs A[i]) := by
  unfold rawP
  rw [take_flat _ _ _ h]
  rfl
theorem pairs_take (u : Trm) (B : List Trm) (j : Nat) (h : j < B.length) : (B.take (j + 1)).flatMap (pairs u) = (B.take j).flatMap (pairs u) ++ pairs u B[j] := take_flat _ _ _ h
theorem rd_red {ts : List T3} {l : List Trm} (h : tm3 ts = rdT l) : ∀ t ∈ ts, red t.p = t.p := fun t ht => by
  have hm : (t.c, t.p) ∈ rdT l := by rw [← h]; exact List.mem_map.2 ⟨t, ht, rfl⟩
  obtain ⟨x, hx, he⟩ := List.mem_map.1 hm
  simp only [Prod.mk.injEq] at he
  rw [← he.2, red_red]
theorem rd_get {ts : List T3} {l : List Trm} (h : tm3 ts = rdT l) (i : Nat) (hi : i < ts.length) : ∃ hl : i < l.length, ts[i].c = l[i].1 ∧ ts[i].p = red l[i].2 := by
  have hlen : ts.length = l.length := by
    have := congrArg List.length h
    simpa [tm3, rdT] using this
  refine ⟨by omega, ?_⟩
  have h1 : (tm3 ts)[i]? = (rdT l)[i]? := by rw [h]
  unfold tm3 rdT at h1
  rw [List.getElem?_map, List.getElem?_map, List.getElem?_eq_getElem hi, List.getElem?_eq_getElem (by omega)] at h1
  simp only [Option.map_some, Option.some.injEq, Prod.mk.injEq] at h1
  exact h1
theorem plp_two (p q a b : List Int) (hp : p = red a) (hq : q = red b) : plp (red (p ++ q)) = plL (a ++ b) ∧ plp (red (p ++ opp q)) = plL (a ++ opp b) := by
  subst hp hq
  refine ⟨?_, ?_⟩
  · rw [red_app]; rfl
  · rw [← redS_opp, red_app]; rfl
theorem mul_rng2 {c d : Int} (h1 : -1000 ≤ c) (h2 : c ≤ 1000) (h3 : -1000 ≤ d) (h4 : d ≤ 1000) : -1000000 ≤ c * d ∧ c * d ≤ 1000000 := by
  have h5 : c.natAbs ≤ 1000 := by omega
  have h6 : d.natAbs ≤ 1000 := by omega
  have h7 := Nat.mul_le_mul h5 h6
  rw [← Int.natAbs_mul] at h7
  omega
theorem six_one (x y : T3) : ∀ u ∈ [x, y].flatMap tc, u.oneCell' = true := tcs_one [x, y]
set_option maxHeartbeats 1600000 in
theorem Times_bad (ao bo : Option Addr) (ca cb : Nat) (l m : List E) (r : Int) (w : World) (h : Trs w ao l) (h2 : Trs w bo m) (hr : r = if vT (tm l) = 0 then vT (tm m) else vT (tm l)) (h0 : r ≠ 0) (hl : l.length ≤ 1000000) (hp : ∀ e ∈ l, e.p.length ≤ 1000000) (hm : m.length ≤ 1000000) (hq : ∀ e ∈ m, e.p.length ≤ 1000000) :
    Calls Tryz.prog 56 #[.slice ao l.length ca, .slice bo m.length cb] w fun e w' => e = .returned (.tuple #[.slice none 0 0, .int .i64 r]) ∧ Below w.heap.size w w' := by
  have cR := fun W h h2 => readBoth_bad ao bo ca cb l m r W h h2 hr h0 hl hp hm hq
  have q1 : (r != 0) = true := by simpa using h0
  have H := Lib.hid h
  have H2 := Lib.hid h2
  clear h h2 h0 hr
  go_enter Tryz.func56, Tryz.ntmps56
  go_wp2_with (fail)
  refine (cR _ (H.out.later (by repeat (first | (with_reducible exact Below.refl _ _) | (with_reducible refine Below.setCell ?_ ?_ _) | (with_reducible refine Below.drew ?_) | (with_reducible refine Below.alloc ?_ ?_ _) | omega | (simp <;> omega)))) (H2.out.later (by repeat (first | (with_reducible exact Below.refl _ _) | (with_reducible refine Below.setCell ?_ ?_ _) | (with_reducible refine Below.drew ?_) | (with_reducible refine Below.alloc ?_ ?_ _) | omega | (simp <;> omega))))).mono ?_
  rintro e w1 ⟨rfl, hw1⟩
  go_wp2
  go_ret2
  exact ⟨rfl, by repeat (first | (with_reducible exact Below.refl _ _) | (with_reducible refine Below.setCell ?_ ?_ _) | (with_reducible refine Below.drew ?_) | (with_reducible refine Below.alloc ?_ ?_ _) | (with_reducible refine Below.trans ?_ (Below.mono hw1 ?_)) | (with_reducible exact hw1.size) | omega | (simp <;> omega) | (simp <;> (have s := hw1.size; omega)) | (have s0 := hw1.size; (try simp at s0); (try simp); omega))⟩

theorem six_rows {W : World} {T : TypeId} (x y : T3) : RowsAt 3 tc (W.alloc (.cells #[.int .i64 x.c, .slice x.a x.p.length x.k, .slice x.b (opp x.p).length x.m, .int .i64 y.c, .slice y.a y.p.length y.k, .slice y.b (opp y.p).length y.m] T)) W.heap.size 0 [x, y] := fun i z hz j v hv => by
  match i, hz with
  | 0, hz =>
    simp only [List.getElem?_cons_zero, Option.some.injEq] at hz
    subst hz
    match j, hv with
    | 0, hv => simp [tc] at hv; subst hv; simp [go_sem]
    | 1, hv => simp [tc] at hv; subst hv; simp [go_sem]
    | 2, hv => simp [tc] at hv; subst hv; simp [go_sem]
    | n + 3, hv => simp [tc] at hv
  | 1, hz =>
    simp only [List.getElem?_cons_succ, List.getElem?_cons_zero, Option.some.injEq] at hz
    subst hz
    match j, hv with
    | 0, hv => simp [tc] at hv; subst hv; simp [go_sem]
    | 1, hv => simp [tc] at hv; subst hv; simp [go_sem]
    | 2, hv => simp [tc] at hv; subst hv; simp [go_sem]
    | n + 3, hv => simp [tc] at hv
  | n + 2, hz => simp at hz
/-- what has been multiplied so far -/
structure Pd (w : World) (g : Nat) (A B : List Trm) (i j N : Nat) (ts : List T3) : Prop where
  own : w.ownsRow g 119 3 (.slice (some ⟨g, 0, none⟩) ts.length N) ts.length (ts.flatMap tc)
  ok : T3N w (g + 1) ts
  small : ∀ t ∈ ts, t.p.length ≤ 16 ∧ (∀ s ∈ t.p, IsStep s) ∧ -1000000 ≤ t.c ∧ t.c ≤ 1000000
  pl : ∀ u, A[i]? = some u → pl3 ts = plo (rawP (A.take i) B ++ (B.take j).flatMap (pairs u))
  pl0 : j = 0 → pl3 ts = plo (rawP (A.take i) B)
theorem plo_app (a b : List Trm) : plo (a ++ b) = plo a ++ plo b := by simp [plo]
theorem pl3_app (a b : List T3) : pl3 (a ++ b) = pl3 a ++ pl3 b := by simp [pl3]
set_option maxHeartbeats 12800000 in
theorem times_step (cc : Int) (p q a b : List Int) : True := trivial

/-- a term's box -/
structure PB (w : World) (b : Nat) (x : T3) : Prop where
  c : w.cell? ⟨b, 0, none⟩ = some (.int .i64 x.c)
  p : w.cell? ⟨b, 1, none⟩ = some (.slice x.a x.p.length x.k)
  q : w.cell? ⟨b, 2, none⟩ = some (.slice x.b (opp x.p).length x.m)
  lt : b < w.heap.size
theorem PB.later {w w1 : World} {b : Nat} {x : T3} (h : PB w b x) (hb : Below w.heap.size w w1) : PB w1 b x := ⟨cell_keep hb h.c, cell_keep hb h.p, cell_keep hb h.q, Nat.lt_of_lt_of_le h.lt hb.size⟩
theorem PB.grown {w w1 : World} {b g : Nat} {x : T3} (h : PB w b x) (hg : w.grownBy w1 (some g)) (hne : b ≠ g) : PB w1 b x := ⟨hg.cell h.c (by simpa using hne), hg.cell h.p (by simpa using hne), hg.cell h.q (by simpa using hne), Nat.lt_of_lt_of_le h.lt hg.size⟩
theorem Pd.next {w : World} {g N i : Nat} {A B : List Trm} {ts : List T3} (h : Pd w g A B i B.length N ts) (hi : i < A.length) : Pd w g A B (i + 1) 0 N ts :=
  have e : pl3 ts = plo (rawP (A.take (i + 1)) B) := by
    rw [h.pl _ (List.getElem?_eq_getElem hi), rawP_take A B i hi, List.take_length]
  ⟨h.own, h.ok, h.small, fun u _ => by rw [List.take_zero, List.flatMap_nil, List.append_nil]; exact e, fun _ => e⟩
theorem Pd.zero {w : World} {g N : Nat} {A B : List Trm} (h : w.ownsRow g 119 3 (.slice (some ⟨g, 0, none⟩) 0 N) 0 []) : Pd w g A B 0 0 N [] :=
  ⟨h, fun e he => by simp at he, fun e he => by simp at he, fun u _ => by simp [pl3, plo, rawP], fun _ => by simp [pl3, plo, rawP]⟩
theorem Pd.later {w w1 : World} {g N i j : Nat} {A B : List Trm} {ts : List T3} (h : Pd w g A B i j N ts) (hb : Below w.heap.size w w1) : Pd w1 g A B i j N ts :=
  ⟨owned_later h.own hb, h.ok.later hb, h.small, h.pl, h.pl0⟩
/-- two products are added -/
theorem Pd.two {w w1 : World} {g N i j : Nat} {A B : List Trm} {ts : List T3} (h : Pd w g A B i j N ts) (hj : j < B.length) (hi : i < A.length) (x y : T3) (u v : Trm) (hu : u = A[i]) (hv : v = B[j]) (p q : List Int) (hp : p = red u.2) (hq : q = red v.2)
    (hx : x.c = u.1 * v.1 ∧ x.p = red (p ++ q)) (hy : y.c = u.1 * v.1 ∧ y.p = red (p ++ opp q)) (hr : -1000000 ≤ u.1 * v.1 ∧ u.1 * v.1 ≤ 1000000) (s1 : ∀ t ∈ p, IsStep t) (s2 : ∀ t ∈ q, IsStep t) (n1 : p.length ≤ 8) (n2 : q.length ≤ 8)
    (hown : w1.ownsRow g 119 3 (.slice (some ⟨g, 0, none⟩) (ts.length + 2) N) (ts.length + 2) (ts.flatMap tc ++ [x, y].flatMap tc)) (hok : T3N w1 (g + 1) ts) (h1 : LiesNI w1 (g + 1) x.a x.p ∧ LiesNI w1 (g + 1) x.b (opp x.p) ∧ x.p.length ≤ x.k ∧ (opp x.p).length ≤ x.m)
    (h2 : LiesNI w1 (g + 1) y.a y.p ∧ LiesNI w1 (g + 1) y.b (opp y.p) ∧ y.p.length ≤ y.k ∧ (opp y.p).length ≤ y.m) : Pd w1 g A B i (j + 1) N (ts ++ [x, y]) := by
  have hl : (ts ++ [x, y]).length = ts.length + 2 := by simp
  refine ⟨by rw [hl, List.flatMap_append]; exact hown, ?_, ?_, ?_, fun h => by omega⟩
  · have := (hok.snoc h1).snoc h2
    simpa using this
  · intro t ht
    rcases List.mem_append.1 ht with ht | ht
    · exact h.small t ht
    · have hlen1 := red_len (p ++ q)
      have hlen2 := red_len (p ++ opp q)
      rw [List.length_append] at hlen1 hlen2
      rw [opp_len] at hlen2
      have st1 : ∀ s ∈ p ++ q, IsStep s := fun s hs => (List.mem_append.1 hs).elim (s1 s) (s2 s)
      have st2 : ∀ s ∈ p ++ opp q, IsStep s := fun s hs => (List.mem_append.1 hs).elim (s1 s) (opp_steps s2 s)
      simp only [List.mem_cons, List.not_mem_nil, or_false] at ht
      rcases ht with rfl | rfl
      · rw [hx.1, hx.2]; exact ⟨by omega, red_steps st1, hr.1, hr.2⟩
      · rw [hy.1, hy.2]; exact ⟨by omega, red_steps st2, hr.1, hr.2⟩
  · intro u' hu'
    rw [List.getElem?_eq_getElem hi] at hu'
    obtain rfl : A[i] = u' := Option.some.inj hu'
    have e := h.pl _ (List.getElem?_eq_getElem hi)
    have e2 := plp_two p q u.2 v.2 hp hq
    rw [pl3_app, e, pairs_take _ _ _ hj, ← hu, ← hv, ← List.append_assoc, plo_app]
    congr 1
    simp [pl3, plo, pairs, hx.1, hx.2, hy.1, hy.2, e2.1, e2.2]
set_option maxHeartbeats 25600000 in
theorem Times_ok (ao bo : Option Addr) (ca cb : Nat) (l m : List E) (w : World) (h : Trs w ao l) (h2 : Trs w bo m) (hv : vT (tm l) = 0) (hv2 : vT (tm m) = 0) :
    Calls Tryz.prog 56 #[.slice ao l.length ca, .slice bo m.length cb] w fun e w' => RetP w.heap.size (plo (rawP (tm l) (tm m))) e w' ∧ Below w.heap.size w w' := by
  obtain ⟨i0, hi, hz0, hz1, hz2⟩ := info_parts info3T
  have H := Lib.hid h
  have H2 := Lib.hid h2
  have HV1 := Lib.hid hv
  have HV2 := Lib.hid hv2
  clear h h2 hv hv2
  have kc := @Tail.cell_re
  have kc1 : ∀ (W : World) (o : Obj) (d : Nat) (os : Array Obj) (a : Addr), a.block ≤ W.heap.size → (Sort.grow (redrawn (W.alloc o) d) os).cell? a = (W.alloc o).cell? a := fun W o d os a h => Tail.cell_re (W.alloc o) d os a (Nat.lt_of_le_of_lt h (by simp))
  go_enter Tryz.func56, Tryz.ntmps56
  go_wp2_with (fail)
  refine (readBoth_ok _ _ _ _ l m _ (H.out.later (by repeat (first | (with_reducible exact Below.refl _ _) | (with_reducible refine Below.setCell ?_ ?_ _) | (with_reducible refine Below.drew ?_) | (with_reducible refine Below.alloc ?_ ?_ _) | omega | (simp <;> omega)))) (H2.out.later (by repeat (first | (with_reducible exact Below.refl _ _) | (with_reducible refine Below.setCell ?_ ?_ _) | (with_reducible refine Below.drew ?_) | (with_reducible refine Below.alloc ?_ ?_ _) | omega | (simp <;> omega)))) HV1.out HV2.out).mono ?_
  rintro e w1 ⟨a1, c1, b1, d1, us, vs, rfl, ht, hu, hr, hr2, hw1⟩
  have HB1 : Hid (Below w.heap.size w w1) := Lib.hid (by repeat (first | (with_reducible exact Below.refl _ _) | (with_reducible refine Below.setCell ?_ ?_ _) | (with_reducible refine Below.drew ?_) | (with_reducible refine Below.alloc ?_ ?_ _) | (with_reducible refine Below.trans ?_ (Below.mono hw1 ?_)) | (with_reducible exact hw1.size) | omega | (simp <;> omega) | (simp <;> (have s := hw1.size; omega)) | (have s0 := hw1.size; (try simp at s0); (try simp); omega)))
  have HT := Lib.hid ht
  have HU := Lib.hid hu
  have hk1 := okt_rd hr HV1.out
  have hk2 := okt_rd hr2 HV2.out
  have n1 : us.length ≤ 40 := by have := hk1.2; have := (vT_ok HV1.out).1; omega
  have n2 : vs.length ≤ 40 := by have := hk2.2; have := (vT_ok HV2.out).1; omega
  have HR1 := Lib.hid hr
  have HR2 := Lib.hid hr2
  have HK1 := Lib.hid hk1
  have HK2 := Lib.hid hk2
  clear ht hu hr hr2 hw1 hk1 hk2
  obtain ⟨N, hN⟩ : ∃ N : Nat, N = 2 * us.length * vs.length := ⟨_, rfl⟩
  have hN2 : N ≤ 3200 := by
    rw [hN]
    have := Nat.mul_le_mul (show 2 * us.length ≤ 80 by omega) n2
    omega
  have eN : 2 * (us.length : Int) * (vs.length : Int) = (N : Int) := by rw [hN]; push_cast; rfl
  have m1 : 0 ≤ 2 * (us.length : Int) * (vs.length : Int) := by rw [eN]; omega
  have m2 : 2 * (us.length : Int) * (vs.length : Int) ≤ 3200 := by rw [eN]; omega
  have hn2 : N ≤ maxLen := by unfold maxLen; omega
  have hn3 : i0.bytes * N ≤ 281474976710656 := by rw [hz2]; omega
  have HNN := Lib.hid hN
  clear hN
  go_wp2_with (at_make; refine wpList_make_own _ rfl _ _ 113 rfl w1.heap.size 119 i0 _ 3 Tryz.underlying113 hi hz0 hz1 _ _ _ N rfl rfl rfl hn3 hn2 (Nat.le_refl _) ?_; intro w2 hown hgrow)
  have hg1 : w1.heap.size + 1 ≤ w2.heap.size := by have := (hown.lt w1.heap.size rfl).2; omega
  have hb2 : Below w1.heap.size w1 w2 := (Below.refl _ _).grown hgrow (Nat.le_refl _) (by simp)
  have HD0 := Lib.hid (Pd.zero (A := tm l) (B := tm m) hown)
  clear hgrow hown eN m1 m2 hn2 hn3
  obtain ⟨g, hg⟩ : ∃ g, g = w1.heap.size := ⟨_, rfl⟩
  rw [← hg] at HD0 hg1 hb2 ⊢
  have HG := Lib.hid hg
  clear hg
  go_loopw [9, 11, 13, 14, 34, 40] (fun f _ _ _ q _ wr => ∃ (i : Nat) (ts : List T3), i ≤ us.length ∧ q = .int .i64 i ∧ f = .slice (some ⟨g, 0, none⟩) ts.length N ∧ Hid (Pd wr g (tm l) (tm m) i 0 N ts) ∧ Hid (ts.length = i * (2 * vs.length)) ∧ Below g w1 wr ∧ g + 1 ≤ wr.heap.size) (fun _ _ _ _ q _ _ => us.length - (intOf q).toNat)
  case atStart => exact ⟨0, [], by omega, rfl, rfl, HD0, Lib.hid (by simp), hb2, hg1⟩
  case round =>
    obtain ⟨i, ts, hi', rfl, rfl, HD, HTL, hb, hgs⟩ := hrel
    clear HD0 hg1 hb2
    by_cases hlt : i < us.length
    · have i1 : (i : Int) < (us.length : Int) := by omega
      have hbw : Below w1.heap.size w1 wr := by rw [← HG.out]; exact hb
      obtain ⟨ub, uo, rfl, y0, y1, y2, hp1, hp2, hq1, hq2⟩ := HT.out.at_ hlt
      have x0 := cell_keep hbw y0
      have x1 := cell_keep hbw y1
      have x2 := cell_keep hbw y2
      have hxk := HK1.out.1.p _ (List.getElem_mem hlt)
      have hxr := rd_red HR1.out _ (List.getElem_mem hlt)
      obtain ⟨hil, hxc, hxp⟩ := rd_get HR1.out i hlt
      generalize us[i] = x at *
      obtain ⟨cx, p, pa, pk, pe, pm⟩ := x
      simp only at *
      have HXK := Lib.hid hxk
      have HXR := Lib.hid hxr
      have HXC := Lib.hid hxc
      have HXP := Lib.hid hxp
      have P1 := Lib.hid hp1.o
      have P2 := Lib.hid hp2.o
      have hPB : PB (wr.alloc (.cells #[.int .i64 cx, .slice pa p.length pk, .slice pe (opp p).length pm] 119)) wr.heap.size ⟨cx, p, pa, pk, pe, pm⟩ := ⟨by simp [go_sem], by simp [go_sem], by simp [go_sem], by simp⟩
      have HPB := Lib.hid hPB
      have hbs := hb.size
      have HD1 := Lib.hid (HD.out.later (w1 := wr.alloc (.cells #[.int .i64 cx, .slice pa p.length pk, .slice pe (opp p).length pm] 119)) (by repeat (first | (with_reducible exact Below.refl _ _) | (with_reducible refine Below.setCell ?_ ?_ _) | (with_reducible refine Below.drew ?_) | (with_reducible refine Below.alloc ?_ ?_ _) | omega | (simp <;> omega))))
      have hb1 : Below g w1 (wr.alloc (.cells #[.int .i64 cx, .slice pa p.length pk, .slice pe (opp p).length pm] 119)) := hb.alloc (by omega) _
      have HTL1 : Hid (ts.length = i * (2 * vs.length) + 2 * 0) := Lib.hid HTL.out
      clear hxk hxr hxc hxp hp1 hp2 hPB HD hb hbw y0 y1 y2 HTL
      go_wp2
      obtain ⟨wo, rfl⟩ : ∃ wo : World, wo = wr := ⟨_, rfl⟩
      have hgo : g < wo.heap.size := hgs
      clear x0 x1 x2 hbs hgs
      go_loopw [9, 13, 14, 40] (fun f _ _ q wr => ∃ (j : Nat) (ts : List T3), j ≤ vs.length ∧ q = .int .i64 j ∧ f = .slice (some ⟨g, 0, none⟩) ts.length N ∧ Hid (Pd wr g (tm l) (tm m) i j N ts) ∧ Hid (ts.length = i * (2 * vs.length) + 2 * j) ∧ Hid (PB wr wo.heap.size ⟨cx, p, pa, pk, pe, pm⟩) ∧ Below g w1 wr ∧ wo.heap.size + 1 ≤ wr.heap.size) (fun _ _ _ q _ => vs.length - (intOf q).toNat)
      case atStart => exact ⟨0, ts, by omega, rfl, rfl, HD1, HTL1, HPB, hb1, by simp⟩
      case round =>
        obtain ⟨j, ts, hj', rfl, rfl, HD, HTL, HPB, hb, hgs⟩ := hrel
        clear HD1 HTL1 hb1
        by_cases hjt : j < vs.length
        · have i2 : (j : Int) < (vs.length : Int) := by omega
          have hbw : Below w1.heap.size w1 wr := by rw [← HG.out]; exact hb
          obtain ⟨vb, vo, rfl, z0, z1, z2, hv1, hv2, hw1, hw2⟩ := HU.out.at_ hjt
          have x0 := cell_keep hbw z0
          have x1 := cell_keep hbw z1
          have x2 := cell_keep hbw z2
          have lvb : vb < wr.heap.size := World.block_lt_of_cell? wr _ x0
          have hyk := HK2.out.1.p _ (List.getElem_mem hjt)
          have hyr := rd_red HR2.out _ (List.getElem_mem hjt)
          obtain ⟨hjl, hyc, hyp⟩ := rd_get HR2.out j hjt
          generalize vs[j] = y at *
          obtain ⟨cy, q, qa, qk, qe, qm⟩ := y
          simp only at *
          obtain ⟨hp8, hps, hc1, hc2⟩ := HXK.out
          obtain ⟨hq8, hqs, hd1, hd2⟩ := hyk
          have hm := mul_rng2 hc1 hc2 hd1 hd2
          obtain ⟨hcc1, hcc2⟩ := hm
          have HYR := Lib.hid hyr
          have HYC := Lib.hid hyc
          have HYP := Lib.hid hyp
          have Q1w := Lib.hid hv1.o
          have Q2w := Lib.hid hv2.o
          have HPS := Lib.hid hps
          have HQS := Lib.hid hqs
          obtain ⟨k0, k1, k2, k3⟩ := HPB.out
          have hroom : ts.length + 2 ≤ N := by
            have h1 := HTL.out
            have h2 := HNN.out
            have h3 := Nat.mul_le_mul_right (2 * vs.length) (show i + 1 ≤ us.length from hlt)
            rw [Nat.succ_mul] at h3
            have h4 : us.length * (2 * vs.length) = 2 * us.length * vs.length := by rw [Nat.mul_left_comm, Nat.mul_assoc]
            omega
          have HROOM := Lib.hid hroom
          clear hyr hyc hyp hv1 hv2 hps hqs z0 z1 z2 hroom
          go_wp2
          have hX1 : Below wr.heap.size wr (wr.alloc (.cells #[.int .i64 cy, .slice qa q.length qk, .slice qe (opp q).length qm] 119)) := by repeat (first | (with_reducible exact Below.refl _ _) | (with_reducible refine Below.setCell ?_ ?_ _) | (with_reducible refine Below.drew ?_) | (with_reducible refine Below.alloc ?_ ?_ _) | omega | (simp <;> omega))
          have hy2 : (wr.alloc (.cells #[.int .i64 cy, .slice qa q.length qk, .slice qe (opp q).length qm] 119)).cell? ⟨wr.heap.size, 1, none⟩ = some (.slice qa q.length qk) := by simp [go_sem]
          have hy3 : (wr.alloc (.cells #[.int .i64 cy, .slice qa q.length qk, .slice qe (opp q).length qm] 119)).cell? ⟨wr.heap.size, 2, none⟩ = some (.slice qe (opp q).length qm) := by simp [go_sem]
          have hqs0 : wr.heap.size < (wr.alloc (.cells #[.int .i64 cy, .slice qa q.length qk, .slice qe (opp q).length qm] 119)).heap.size := by simp
          generalize wr.alloc (.cells #[.int .i64 cy, .slice qa q.length qk, .slice qe (opp q).length qm] 119) = X0 at *
          have y0 := cell_keep hX1 k1
          have y1 := cell_keep hX1 k2
          have y2 := hy2
          have y3 := hy3
          have bwX : Below w1.heap.size w1 X0 := hbw.trans (hX1.mono hbw.size)
          have P1 := Lib.hid (P1.out.later bwX)
          have P2 := Lib.hid (P2.out.later bwX)
          have Q1 := Lib.hid (Q1w.out.later bwX)
          have Q2 := Lib.hid (Q2w.out.later bwX)
          have HDX := Lib.hid (HD.out.later hX1)
          have HPX := Lib.hid (HPB.out.later hX1)
          have HO0 := Lib.hid HDX.out.own
          have hbX : Below g w1 X0 := hb.trans (hX1.mono (by omega))
          have HBX := Lib.hid hbX
          have hgX : g + 1 ≤ X0.heap.size := by have := hX1.size; omega
          have hwX : wo.heap.size + 1 ≤ X0.heap.size := by have := hX1.size; omega
          have c1 := fun W h1 h2 h3 h4 => then_red pa pe qa qe pk pm qk qm p q (opp q) W rfl h1 h2 h3 h4 HXR.out HYR.out HPS.out HQS.out hq1 hq2 hw1 hw2 hp8 hq8
          have c2 := fun W => turnedW_any qa qe q.length (opp q).length qk qm W
          have c3 := fun W h1 h2 h3 h4 => then_red pa pe qe qa pk pm qm qk p (opp q) q W (opp_opp q).symm h1 h2 h3 h4 HXR.out (by rw [redS_opp, HYR.out]) HPS.out (opp_steps HQS.out) hq1 hq2 hw2 hw1 hp8 (by rw [opp_len]; exact hq8)
          have hqb : g < wr.heap.size := by omega
          have hqw : wo.heap.size < wr.heap.size := k3
          generalize wr.heap.size = qb at *
          have hneo : wo.heap.size ≠ g := by omega
          have hneq : qb ≠ g := by omega
          have hroom := HROOM.out
          clear hX1 hy2 hy3 k0 k1 k2 k3 hbw hb hbX bwX Q1w Q2w HD HPB x0 x1 x2
          go_region_held3 (fun w' => w'.cell? ⟨wo.heap.size, 1, none⟩ = some (.slice pa p.length pk) ∧ w'.cell? ⟨wo.heap.size, 2, none⟩ = some (.slice pe (opp p).length pm) ∧ w'.cell? ⟨qb, 1, none⟩ = some (.slice qa q.length qk) ∧ w'.cell? ⟨qb, 2, none⟩ = some (.slice qe (opp q).length qm))
              (first
                | (exact ⟨hgrow7.cell (cell_keep (W := X0) (by repeat (first | (with_reducible exact Below.refl _ _) | (with_reducible refine Below.setCell ?_ ?_ _) | (with_reducible refine Below.drew ?_) | (with_reducible refine Below.alloc ?_ ?_ _) | (with_reducible refine Below.trans ?_ (Below.mono bX6 ?_)) | (with_reducible exact bX6.size) | omega | (simp <;> omega) | (simp <;> (have s := bX6.size; omega)) | (have s0 := bX6.size; (try simp at s0); (try simp); omega))) y0) (by simp; omega), hgrow7.cell (cell_keep (W := X0) (by repeat (first | (with_reducible exact Below.refl _ _) | (with_reducible refine Below.setCell ?_ ?_ _) | (with_reducible refine Below.drew ?_) | (with_reducible refine Below.alloc ?_ ?_ _) | (with_reducible refine Below.trans ?_ (Below.mono bX6 ?_)) | (with_reducible exact bX6.size) | omega | (simp <;> omega) | (simp <;> (have s := bX6.size; omega)) | (have s0 := bX6.size; (try simp at s0); (try simp); omega))) y1) (by simp; omega), hgrow7.cell (cell_keep (W := X0) (by repeat (first | (with_reducible exact Below.refl _ _) | (with_reducible refine Below.setCell ?_ ?_ _) | (with_reducible refine Below.drew ?_) | (with_reducible refine Below.alloc ?_ ?_ _) | (with_reducible refine Below.trans ?_ (Below.mono bX6 ?_)) | (with_reducible exact bX6.size) | omega | (simp <;> omega) | (simp <;> (have s := bX6.size; omega)) | (have s0 := bX6.size; (try simp at s0); (try simp); omega))) y2) (by simp; omega), hgrow7.cell (cell_keep (W := X0) (by repeat (first | (with_reducible exact Below.refl _ _) | (with_reducible refine Below.setCell ?_ ?_ _) | (with_reducible refine Below.drew ?_) | (with_reducible refine Below.alloc ?_ ?_ _) | (with_reducible refine Below.trans ?_ (Below.mono bX6 ?_)) | (with_reducible exact bX6.size) | omega | (simp <;> omega) | (simp <;> (have s := bX6.size; omega)) | (have s0 := bX6.size; (try simp at s0); (try simp); omega))) y3) (by simp; omega)⟩)
                | (exact ⟨cell_keep (W := X0) (by repeat (first | (with_reducible exact Below.refl _ _) | (with_reducible refine Below.setCell ?_ ?_ _) | (with_reducible refine Below.drew ?_) | (with_reducible refine Below.alloc ?_ ?_ _) | (with_reducible refine Below.trans ?_ (Below.mono bX6 ?_)) | (with_reducible exact bX6.size) | omega | (simp <;> omega) | (simp <;> (have s := bX6.size; omega)) | (have s0 := bX6.size; (try simp at s0); (try simp); omega))) y0, cell_keep (W := X0) (by repeat (first | (with_reducible exact Below.refl _ _) | (with_reducible refine Below.setCell ?_ ?_ _) | (with_reducible refine Below.drew ?_) | (with_reducible refine Below.alloc ?_ ?_ _) | (with_reducible refine Below.trans ?_ (Below.mono bX6 ?_)) | (with_reducible exact bX6.size) | omega | (simp <;> omega) | (simp <;> (have s := bX6.size; omega)) | (have s0 := bX6.size; (try simp at s0); (try simp); omega))) y1, cell_keep (W := X0) (by repeat (first | (with_reducible exact Below.refl _ _) | (with_reducible refine Below.setCell ?_ ?_ _) | (with_reducible refine Below.drew ?_) | (with_reducible refine Below.alloc ?_ ?_ _) | (with_reducible refine Below.trans ?_ (Below.mono bX6 ?_)) | (with_reducible exact bX6.size) | omega | (simp <;> omega) | (simp <;> (have s := bX6.size; omega)) | (have s0 := bX6.size; (try simp at s0); (try simp); omega))) y2, cell_keep (W := X0) (by repeat (first | (with_reducible exact Below.refl _ _) | (with_reducible refine Below.setCell ?_ ?_ _) | (with_reducible refine Below.drew ?_) | (with_reducible refine Below.alloc ?_ ?_ _) | (with_reducible refine Below.trans ?_ (Below.mono bX6 ?_)) | (with_reducible exact bX6.size) | omega | (simp <;> omega) | (simp <;> (have s := bX6.size; omega)) | (have s0 := bX6.size; (try simp at s0); (try simp); omega))) y3⟩)
                | (exact ⟨cell_keep bX6 y0, cell_keep bX6 y1, cell_keep bX6 y2, cell_keep bX6 y3⟩)
                | (exact ⟨cell_keep bX5 y0, cell_keep bX5 y1, cell_keep bX5 y2, cell_keep bX5 y3⟩)
                | (exact ⟨cell_keep bX4 y0, cell_keep bX4 y1, cell_keep bX4 y2, cell_keep bX4 y3⟩)
                | go_keep)
              ((first
                | ((with_reducible refine (c1 _ ?_ ?_ ?_ ?_).mono ?_); (focus (refine P1.out.later ?_; (repeat (first | (with_reducible exact Below.refl _ _) | (with_reducible refine Below.setCell ?_ ?_ _) | (with_reducible refine Below.drew ?_) | (with_reducible refine Below.alloc ?_ ?_ _) | omega | (simp <;> omega))); done)); (focus (refine P2.out.later ?_; (repeat (first | (with_reducible exact Below.refl _ _) | (with_reducible refine Below.setCell ?_ ?_ _) | (with_reducible refine Below.drew ?_) | (with_reducible refine Below.alloc ?_ ?_ _) | omega | (simp <;> omega))); done)); (focus (refine Q1.out.later ?_; (repeat (first | (with_reducible exact Below.refl _ _) | (with_reducible refine Below.setCell ?_ ?_ _) | (with_reducible refine Below.drew ?_) | (with_reducible refine Below.alloc ?_ ?_ _) | omega | (simp <;> omega))); done)); (focus (refine Q2.out.later ?_; (repeat (first | (with_reducible exact Below.refl _ _) | (with_reducible refine Below.setCell ?_ ?_ _) | (with_reducible refine Below.drew ?_) | (with_reducible refine Below.alloc ?_ ?_ _) | omega | (simp <;> omega))); done)); rintro e w4 ⟨a1, b1, k1, m1, rfl, hl1, hk1, hn1, hm1, hw4⟩; have HL1 := Lib.hid hl1; have HN1 := Lib.hid hn1; clear hl1 hn1; have bX4 : Below X0.heap.size X0 w4 := (by repeat (first | (with_reducible exact Below.refl _ _) | (with_reducible refine Below.setCell ?_ ?_ _) | (with_reducible refine Below.drew ?_) | (with_reducible refine Below.alloc ?_ ?_ _) | (with_reducible refine Below.trans ?_ (Below.mono hw4 ?_)) | (with_reducible exact hw4.size) | omega | (simp <;> omega) | (simp <;> (have s := hw4.size; omega)) | (have s0 := hw4.size; (try simp at s0); (try simp); omega))))
                | ((with_reducible refine (c2 _).mono ?_); rintro e w5 ⟨rfl, hw5⟩; have bX5 : Below X0.heap.size X0 w5 := (by repeat (first | (with_reducible exact Below.refl _ _) | (with_reducible refine Below.setCell ?_ ?_ _) | (with_reducible refine Below.drew ?_) | (with_reducible refine Below.alloc ?_ ?_ _) | (with_reducible refine Below.trans ?_ (Below.mono hw5 ?_)) | (with_reducible refine Below.trans ?_ (Below.mono bX4 ?_)) | (with_reducible exact hw5.size) | (with_reducible exact bX4.size) | omega | (simp <;> omega) | (simp <;> (have s := hw5.size; omega)) | (simp <;> (have s := bX4.size; omega)) | (have s0 := hw5.size; (try simp at s0); have s1 := bX4.size; (try simp at s1); (try simp); omega))))
                | ((with_reducible refine (c3 _ ?_ ?_ ?_ ?_).mono ?_); (focus (refine P1.out.later ?_; (repeat (first | (with_reducible exact Below.refl _ _) | (with_reducible refine Below.setCell ?_ ?_ _) | (with_reducible refine Below.drew ?_) | (with_reducible refine Below.alloc ?_ ?_ _) | (with_reducible refine Below.trans ?_ (Below.mono hw5 ?_)) | (with_reducible refine Below.trans ?_ (Below.mono bX4 ?_)) | (with_reducible exact hw5.size) | (with_reducible exact bX4.size) | omega | (simp <;> omega) | (simp <;> (have s := hw5.size; omega)) | (simp <;> (have s := bX4.size; omega)) | (have s0 := hw5.size; (try simp at s0); have s1 := bX4.size; (try simp at s1); (try simp); omega))); done)); (focus (refine P2.out.later ?_; (repeat (first | (with_reducible exact Below.refl _ _) | (with_reducible refine Below.setCell ?_ ?_ _) | (with_reducible refine Below.drew ?_) | (with_reducible refine Below.alloc ?_ ?_ _) | (with_reducible refine Below.trans ?_ (Below.mono hw5 ?_)) | (with_reducible refine Below.trans ?_ (Below.mono bX4 ?_)) | (with_reducible exact hw5.size) | (with_reducible exact bX4.size) | omega | (simp <;> omega) | (simp <;> (have s := hw5.size; omega)) | (simp <;> (have s := bX4.size; omega)) | (have s0 := hw5.size; (try simp at s0); have s1 := bX4.size; (try simp at s1); (try simp); omega))); done)); (focus (refine Q2.out.later ?_; (repeat (first | (with_reducible exact Below.refl _ _) | (with_reducible refine Below.setCell ?_ ?_ _) | (with_reducible refine Below.drew ?_) | (with_reducible refine Below.alloc ?_ ?_ _) | (with_reducible refine Below.trans ?_ (Below.mono hw5 ?_)) | (with_reducible refine Below.trans ?_ (Below.mono bX4 ?_)) | (with_reducible exact hw5.size) | (with_reducible exact bX4.size) | omega | (simp <;> omega) | (simp <;> (have s := hw5.size; omega)) | (simp <;> (have s := bX4.size; omega)) | (have s0 := hw5.size; (try simp at s0); have s1 := bX4.size; (try simp at s1); (try simp); omega))); done)); (focus (refine Q1.out.later ?_; (repeat (first | (with_reducible exact Below.refl _ _) | (with_reducible refine Below.setCell ?_ ?_ _) | (with_reducible refine Below.drew ?_) | (with_reducible refine Below.alloc ?_ ?_ _) | (with_reducible refine Below.trans ?_ (Below.mono hw5 ?_)) | (with_reducible refine Below.trans ?_ (Below.mono bX4 ?_)) | (with_reducible exact hw5.size) | (with_reducible exact bX4.size) | omega | (simp <;> omega) | (simp <;> (have s := hw5.size; omega)) | (simp <;> (have s := bX4.size; omega)) | (have s0 := hw5.size; (try simp at s0); have s1 := bX4.size; (try simp at s1); (try simp); omega))); done)); rintro e w6 ⟨a3, b3, k3, m3, rfl, hl3, hk3, hn3, hm3, hw6⟩; have HL3 := Lib.hid hl3; have HN3 := Lib.hid hn3; clear hl3 hn3; have bX6 : Below X0.heap.size X0 w6 := (by repeat (first | (with_reducible exact Below.refl _ _) | (with_reducible refine Below.setCell ?_ ?_ _) | (with_reducible refine Below.drew ?_) | (with_reducible refine Below.alloc ?_ ?_ _) | (with_reducible refine Below.trans ?_ (Below.mono hw6 ?_)) | (with_reducible refine Below.trans ?_ (Below.mono bX5 ?_)) | (with_reducible exact hw6.size) | (with_reducible exact bX5.size) | omega | (simp <;> omega) | (simp <;> (have s := hw6.size; omega)) | (simp <;> (have s := bX5.size; omega)) | (have s0 := hw6.size; (try simp at s0); have s1 := bX5.size; (try simp at s1); (try simp); omega))); have hs6 := bX6.size; have HO6 := Lib.hid (owned_later HO0.out bX6))
                | (refine step_append_fits (by rfl) _ _ _ (by rfl) g 119 i0 3 Tryz.underlying113 hi hz1 g ts.length N (ts.flatMap tc) (by rfl) (HO6.out.alloc _) ⟨w6.heap.size, 0, none⟩ 2 2 ([(⟨cx * cy, red (p ++ q), a1, k1, b1, m1⟩ : T3), ⟨cx * cy, red (p ++ opp q), a3, k3, b3, m3⟩].flatMap tc) (by rfl) (by rfl) (rows_at (l := [(⟨cx * cy, red (p ++ q), a1, k1, b1, m1⟩ : T3), ⟨cx * cy, red (p ++ opp q), a3, k3, b3, m3⟩]) tc_len (by decide) (six_rows _ _)) (six_one _ _) hroom ?_; intro w7 hown7 hgrow7)))
          have hb7 : Below g w1 w7 := Below.grown (by have hbX := HBX.out; repeat (first | (with_reducible exact Below.refl _ _) | (with_reducible refine Below.setCell ?_ ?_ _) | (with_reducible refine Below.drew ?_) | (with_reducible refine Below.alloc ?_ ?_ _) | (with_reducible refine Below.trans ?_ (Below.mono bX6 ?_)) | (with_reducible refine Below.trans ?_ (Below.mono hbX ?_)) | (with_reducible exact bX6.size) | (with_reducible exact hbX.size) | omega | (simp <;> omega) | (simp <;> (have s := bX6.size; omega)) | (simp <;> (have s := hbX.size; omega)) | (have s0 := bX6.size; (try simp at s0); have s1 := hbX.size; (try simp at s1); (try simp); omega))) hgrow7 (by simp; omega) (fun j hj => by simp at hj; omega)
          have ba : Below w6.heap.size w6 (w6.alloc (.cells #[.int .i64 (cx * cy), .slice a1 (red (p ++ q)).length k1, .slice b1 (opp (red (p ++ q))).length m1, .int .i64 (cx * cy), .slice a3 (red (p ++ opp q)).length k3, .slice b3 (opp (red (p ++ opp q))).length m3] 119)) := by repeat (first | (with_reducible exact Below.refl _ _) | (with_reducible refine Below.setCell ?_ ?_ _) | (with_reducible refine Below.drew ?_) | (with_reducible refine Below.alloc ?_ ?_ _) | omega | (simp <;> omega))
          have bX7 : Below X0.heap.size X0 (w6.alloc (.cells #[.int .i64 (cx * cy), .slice a1 (red (p ++ q)).length k1, .slice b1 (opp (red (p ++ q))).length m1, .int .i64 (cx * cy), .slice a3 (red (p ++ opp q)).length k3, .slice b3 (opp (red (p ++ opp q))).length m3] 119)) := by repeat (first | (with_reducible exact Below.refl _ _) | (with_reducible refine Below.setCell ?_ ?_ _) | (with_reducible refine Below.drew ?_) | (with_reducible refine Below.alloc ?_ ?_ _) | (with_reducible refine Below.trans ?_ (Below.mono bX6 ?_)) | (with_reducible exact bX6.size) | omega | (simp <;> omega) | (simp <;> (have s := bX6.size; omega)) | (have s0 := bX6.size; (try simp at s0); (try simp); omega))
          have hT7 : T3N w7 (g + 1) ts := (HDX.out.ok.later bX7).grown hgrow7 (by omega)
          have hP7 : PB w7 wo.heap.size ⟨cx, p, pa, pk, pe, pm⟩ := (HPX.out.later bX7).grown hgrow7 hneo
          have b45 : Below w4.heap.size w4 (w6.alloc (.cells #[.int .i64 (cx * cy), .slice a1 (red (p ++ q)).length k1, .slice b1 (opp (red (p ++ q))).length m1, .int .i64 (cx * cy), .slice a3 (red (p ++ opp q)).length k3, .slice b3 (opp (red (p ++ opp q))).length m3] 119)) := by repeat (first | (with_reducible exact Below.refl _ _) | (with_reducible refine Below.setCell ?_ ?_ _) | (with_reducible refine Below.drew ?_) | (with_reducible refine Below.alloc ?_ ?_ _) | (with_reducible refine Below.trans ?_ (Below.mono hw6 ?_)) | (with_reducible refine Below.trans ?_ (Below.mono hw5 ?_)) | (with_reducible exact hw6.size) | (with_reducible exact hw5.size) | omega | (simp <;> omega) | (simp <;> (have s := hw6.size; omega)) | (simp <;> (have s := hw5.size; omega)) | (have s0 := hw6.size; (try simp at s0); have s1 := hw5.size; (try simp at s1); (try simp); omega))
          have s4 := bX4.size
          have s5 := bX5.size
          have hx7 : LiesNI w7 (g + 1) a1 (red (p ++ q)) ∧ LiesNI w7 (g + 1) b1 (opp (red (p ++ q))) ∧ (red (p ++ q)).length ≤ k1 ∧ (opp (red (p ++ q))).length ≤ m1 := ⟨((HL1.out.le hgX).later b45).grown hgrow7 (by omega), ((HN1.out.le hgX).later b45).grown hgrow7 (by omega), hk1, hm1⟩
          have hy7 : LiesNI w7 (g + 1) a3 (red (p ++ opp q)) ∧ LiesNI w7 (g + 1) b3 (opp (red (p ++ opp q))) ∧ (red (p ++ opp q)).length ≤ k3 ∧ (opp (red (p ++ opp q))).length ≤ m3 := ⟨((HL3.out.le (by omega)).later ba).grown hgrow7 (by omega), ((HN3.out.le (by omega)).later ba).grown hgrow7 (by omega), hk3, hm3⟩
          have hD7 := HDX.out.two hjl hil (⟨cx * cy, red (p ++ q), a1, k1, b1, m1⟩ : T3) ⟨cx * cy, red (p ++ opp q), a3, k3, b3, m3⟩ _ _ rfl rfl p q HXP.out HYP.out ⟨by rw [HXC.out, HYC.out], rfl⟩ ⟨by rw [HXC.out, HYC.out], rfl⟩ (by rw [← HXC.out, ← HYC.out]; exact ⟨hcc1, hcc2⟩) HPS.out HQS.out hp8 hq8 hown7 hT7 hx7 hy7
          have hl7 : (ts ++ [(⟨cx * cy, red (p ++ q), a1, k1, b1, m1⟩ : T3), ⟨cx * cy, red (p ++ opp q), a3, k3, b3, m3⟩]).length = i * (2 * vs.length) + 2 * (j + 1) := by rw [List.length_append, HTL.out]; simp; omega
          have HD7 := Lib.hid hD7
          have HL7 := Lib.hid hl7
          have HP7 := Lib.hid hP7
          have s7 : wo.heap.size + 1 ≤ w7.heap.size := by have := hP7.lt; omega
          clear hown7 hgrow7 hT7 hx7 hy7 hD7 hl7 hP7 b45 ba bX7 HDX HPX HBX HO0 HO6 HL1 HN1 HL3 HN3 P1 P2 Q1 Q2 HTL y0 y1 y2 y3 bX4 bX5 bX6 hw4 hw5 hw6
          go_wp2
          exact ⟨⟨j + 1, _, by omega, by go_num, by simp, HD7, HL7, HP7, hb7, s7⟩, by simp [intOf]; omega⟩
        · obtain rfl : vs.length = j := by omega
          have hlm : (tm m).length = vs.length := by have := HK2.out.2; omega
          have hDn : Pd wr g (tm l) (tm m) (i + 1) 0 N ts := by
            have h := HD.out
            rw [← hlm] at h
            exact h.next hil
          have hLn : ts.length = (i + 1) * (2 * vs.length) := by rw [HTL.out, Nat.add_mul, Nat.one_mul]
          have HDn := Lib.hid hDn
          have HLn := Lib.hid hLn
          clear hDn hLn HD HTL
          go_wp2
          exact ⟨⟨i + 1, ts, by omega, by go_num, rfl, HDn, HLn, hb, by omega⟩, by simp [intOf]; omega⟩
    · obtain rfl : us.length = i := by omega
      obtain ⟨w3, rfl⟩ : ∃ w3 : World, w3 = wr := ⟨_, rfl⟩
      have hbw : Below w1.heap.size w1 w3 := by rw [← HG.out]; exact hb
      have HB3 := Lib.hid (HB1.out.trans (hbw.mono HB1.out.size))
      have hgw : w.heap.size ≤ g := by rw [HG.out]; exact HB1.out.size
      have HT3 := Lib.hid (Tr3.mk (B := w.heap.size) (.inr ⟨g, 0, rfl, hgw, owned_rows tc_len HD.out.own⟩) (HD.out.ok.le (by omega)))
      have hk : Okt 16 1000000000 ts := ⟨by
        have h1 := HTL.out
        have h2 := HNN.out
        have h4 : us.length * (2 * vs.length) = 2 * us.length * vs.length := by rw [Nat.mul_left_comm, Nat.mul_assoc]
        omega, fun t ht => by obtain ⟨h1, h2, h3, h4⟩ := HD.out.small t ht; exact ⟨h1, h2, by omega, by omega⟩⟩
      have HK := Lib.hid hk
      have hlm : us.length = (tm l).length := HK1.out.2
      have hpl : pl3 ts = plo (rawP (tm l) (tm m)) := by
        have := HD.out.pl0 rfl
        rwa [hlm, List.take_length] at this
      have HPL := Lib.hid hpl
      clear hb hbw hk hlm hpl HD HTL
      go_wp2_with (fail)
      refine (plain_ok w.heap.size _ _ ts _ HT3.out (HB3.out.size) HK.out).mono ?_
      rintro e w4 ⟨a4, c4, es, rfl, hes, htm, hw4⟩
      have HB4 := Lib.hid (HB3.out.trans (hw4.mono HB3.out.size))
      have hsm := es_small HK.out htm
      rw [HPL.out] at htm
      have HE := Lib.hid hes
      have HM := Lib.hid htm
      have HS := Lib.hid hsm
      clear hes htm hsm hw4
      by_cases hv : vT (plT (plo (rawP (tm l) (tm m)))) = 0
      · have HV := Lib.hid hv
        clear hv
        go_wp2_with (fail)
        refine (limited_ok w.heap.size _ _ es _ HE.out HS.out (by rw [HM.out]; exact HV.out)).mono ?_
        rintro e w5 ⟨rfl, hte, hw5⟩
        have HE2 := Lib.hid hte
        have HB5 := Lib.hid (HB4.out.trans (hw5.mono HB4.out.size))
        clear hte hw5
        go_wp2
        go_ret2
        exact ⟨.inl ⟨HV.out, a4, c4, es, rfl, HE2.out, HM.out⟩, HB5.out⟩
      · have HV := Lib.hid hv
        clear hv
        go_wp2_with (fail)
        refine (limited_no w.heap.size _ _ es _ HE.out HS.out (by rw [HM.out]; exact HV.out)).mono ?_
        rintro e w5 ⟨rfl, -, hw5⟩
        have HB5 := Lib.hid (HB4.out.trans (hw5.mono HB4.out.size))
        clear hw5
        go_wp2
        go_ret2
        exact ⟨.inr ⟨HV.out, rfl⟩, HB5.out⟩
end Go.Proofs.YtjidbajcnomceaaGreat

/- Squares of paths, and the comparison of sums of loops, as the program makes them.
Conditions: those written at each theorem. -/
namespace Go.Proofs.YtjidbajcnomceaaGreat
set_option linter.unusedVariables false
set_option linter.unusedSimpArgs false
set_option maxRecDepth 1000000
open Go.RowKit
open Um Tm Lm

set_option maxHeartbeats 3200000 in
theorem Square_ok (ao : Option Addr) (ca : Nat) (p : List Int) (w : World) (h : LiesOI w ao p) (hv : pe p = 0) :
    Calls Tryz.prog 28 #[.slice ao p.length ca] w fun e w' => RetP w.heap.size (plo (rawP [(1, p)] [(1, p)])) e w' ∧ Below w.heap.size w w' := by
  have H := Lib.hid h
  have hv1 : vT [(1, p)] = 0 := by simp [vT, tes, te, okC, hv]
  have HV := Lib.hid hv1
  clear h hv hv1
  go_enter Tryz.func28, Tryz.ntmps28
  have hT : Trs (w.alloc (.cells #[.int .i64 1, .slice ao p.length ca] 60)) (some ⟨w.heap.size, 0, none⟩) [⟨1, p, ao, ca⟩] := by
    refine ⟨.inr ⟨w.heap.size, 0, rfl, fun i x hx j v hv => ?_⟩, fun e he => ?_⟩
    · match i, hx with
      | 0, hx =>
        simp only [List.getElem?_cons_zero, Option.some.injEq] at hx
        subst hx
        match j, hv with
        | 0, hv => simp [ec] at hv; subst hv; simp [go_sem]
        | 1, hv => simp [ec] at hv; subst hv; simp [go_sem]
        | n + 2, hv => simp [ec] at hv
      | n + 1, hx => simp at hx
    · simp only [List.mem_cons, List.not_mem_nil, or_false] at he
      subst he
      exact H.out.later (by repeat (first | (with_reducible exact Below.refl _ _) | (with_reducible refine Below.setCell ?_ ?_ _) | (with_reducible refine Below.drew ?_) | (with_reducible refine Below.alloc ?_ ?_ _) | omega | (simp <;> omega)))
  have HT := Lib.hid hT
  clear hT
  have cT := fun W h h2 => Times_ok (some ⟨w.heap.size, 0, none⟩) (some ⟨w.heap.size, 0, none⟩) 1 1 [⟨1, p, ao, ca⟩] [⟨1, p, ao, ca⟩] W h h2 HV.out HV.out
  go_wp2_with (fail)
  refine (cT _ HT.out HT.out).mono ?_
  rintro e w1 ⟨hr, hw1⟩
  have hb : Below w.heap.size w w1 := by repeat (first | (with_reducible exact Below.refl _ _) | (with_reducible refine Below.setCell ?_ ?_ _) | (with_reducible refine Below.drew ?_) | (with_reducible refine Below.alloc ?_ ?_ _) | (with_reducible refine Below.trans ?_ (Below.mono hw1 ?_)) | (with_reducible exact hw1.size) | omega | (simp <;> omega) | (simp <;> (have s := hw1.size; omega)) | (have s0 := hw1.size; (try simp at s0); (try simp); omega))
  have hr2 : RetP w.heap.size (plo (rawP [(1, p)] [(1, p)])) e w1 := by
    rcases hr with ⟨h1, a, c, es, h2, h3, h4⟩ | h
    · exact .inl ⟨h1, a, c, es, h2, h3.le (by simp), h4⟩
    · exact .inr h
  rcases hr2 with ⟨h1, a, c, es, rfl, h3, h4⟩ | ⟨h1, rfl⟩
  · have HH := Lib.hid h1
    have H3 := Lib.hid h3
    have H4 := Lib.hid h4
    clear hr hw1 h1 h3 h4
    go_wp2
    go_ret2
    exact ⟨.inl ⟨HH.out, a, c, es, rfl, H3.out, H4.out⟩, hb⟩
  · have HH := Lib.hid h1
    clear hr hw1 h1
    go_wp2
    go_ret2
    exact ⟨.inr ⟨HH.out, rfl⟩, hb⟩
set_option maxHeartbeats 3200000 in
theorem Square_bad (ao : Option Addr) (ca : Nat) (p : List Int) (r : Int) (w : World) (h : LiesOI w ao p) (hr : pe p = r) (h0 : r ≠ 0) (hl : p.length ≤ 1000000) :
    Calls Tryz.prog 28 #[.slice ao p.length ca] w fun e w' => e = .returned (.tuple #[.slice none 0 0, .int .i64 r]) ∧ Below w.heap.size w w' := by
  have H := Lib.hid h
  have hv1 : vT [(1, p)] = r := by subst hr; simp [vT, tes, te, okC]; intro h; exact h.symm
  have HV := Lib.hid hv1
  clear h hr hv1
  go_enter Tryz.func28, Tryz.ntmps28
  have hT : Trs (w.alloc (.cells #[.int .i64 1, .slice ao p.length ca] 60)) (some ⟨w.heap.size, 0, none⟩) [⟨1, p, ao, ca⟩] := by
    refine ⟨.inr ⟨w.heap.size, 0, rfl, fun i x hx j v hv => ?_⟩, fun e he => ?_⟩
    · match i, hx with
      | 0, hx =>
        simp only [List.getElem?_cons_zero, Option.some.injEq] at hx
        subst hx
        match j, hv with
        | 0, hv => simp [ec] at hv; subst hv; simp [go_sem]
        | 1, hv => simp [ec] at hv; subst hv; simp [go_sem]
        | n + 2, hv => simp [ec] at hv
      | n + 1, hx => simp at hx
    · simp only [List.mem_cons, List.not_mem_nil, or_false] at he
      subst he
      exact H.out.later (by repeat (first | (with_reducible exact Below.refl _ _) | (with_reducible refine Below.setCell ?_ ?_ _) | (with_reducible refine Below.drew ?_) | (with_reducible refine Below.alloc ?_ ?_ _) | omega | (simp <;> omega)))
  have HT := Lib.hid hT
  clear hT
  have cT := fun W h h2 => Times_bad (some ⟨w.heap.size, 0, none⟩) (some ⟨w.heap.size, 0, none⟩) 1 1 [⟨1, p, ao, ca⟩] [⟨1, p, ao, ca⟩] r W h h2 (by rw [show tm [(⟨1, p, ao, ca⟩ : E)] = [(1, p)] from rfl, HV.out, if_neg h0]) h0 (by simp) (by simpa using hl) (by simp) (by simpa using hl)
  go_wp2_with (fail)
  refine (cT _ HT.out HT.out).mono ?_
  rintro e w1 ⟨rfl, hw1⟩
  go_wp2
  go_ret2
  exact ⟨rfl, by repeat (first | (with_reducible exact Below.refl _ _) | (with_reducible refine Below.setCell ?_ ?_ _) | (with_reducible refine Below.drew ?_) | (with_reducible refine Below.alloc ?_ ?_ _) | (with_reducible refine Below.trans ?_ (Below.mono hw1 ?_)) | (with_reducible exact hw1.size) | omega | (simp <;> omega) | (simp <;> (have s := hw1.size; omega)) | (have s0 := hw1.size; (try simp at s0); (try simp); omega))⟩

end Go.Proofs.YtjidbajcnomceaaGreat

/- What every law of sums asks of the program besides: the square of one known path.
Conditions: none. -/
namespace Go.Proofs.YtjidbajcnomceaaGreat
set_option linter.unusedVariables false
set_option linter.unusedSimpArgs false
set_option maxRecDepth 1000000
open Go.RowKit
open Um Tm Lm

theorem sq_known : plT (plo (rawP [(1, [1, 2, -1, -2])] [(1, [1, 2, -1, -2])])) = [(1, []), (1, [-2, -1, 2, 1, -2, -1, 2, 1])] ∨ plT (plo (rawP [(1, [1, 2, -1, -2])] [(1, [1, 2, -1, -2])])) = [(1, []), (1, [1, 2, -1, -2, 1, 2, -1, -2])] ∨ plT (plo (rawP [(1, [1, 2, -1, -2])] [(1, [1, 2, -1, -2])])) = [(1, []), (1, [2, 1, -2, -1, 2, 1, -2, -1])] := by decide +kernel
theorem sq_two : ∃ q, plT (plo (rawP [(1, [1, 2, -1, -2])] [(1, [1, 2, -1, -2])])) = [(1, []), (1, q)] ∧ q.length = 8 ∧ vT [(1, []), (1, q)] = 0 := by
  rcases sq_known with h | h | h
  · exact ⟨_, h, rfl, by decide +kernel⟩
  · exact ⟨_, h, rfl, by decide +kernel⟩
  · exact ⟨_, h, rfl, by decide +kernel⟩
theorem two_es {es : List E} {c d : Int} {p q : List Int} (h : tm es = [(c, p), (d, q)]) : ∃ a1 k1 a2 k2, es = [⟨c, p, a1, k1⟩, ⟨d, q, a2, k2⟩] := by
  match es, h with
  | [], h => simp [tm] at h
  | [_], h => simp [tm] at h
  | [⟨c1, p1, a1, k1⟩, ⟨c2, p2, a2, k2⟩], h =>
    simp [tm] at h
    obtain ⟨⟨rfl, rfl⟩, rfl, rfl⟩ := h
    exact ⟨a1, k1, a2, k2, rfl⟩
  | _ :: _ :: _ :: _, h => simp [tm] at h
set_option maxHeartbeats 1600000 in
theorem known3_any (w : World) : Calls Tryz.prog 9 #[] w fun e w' => e = .returned (.bool true) ∧ Below w.heap.size w w' := by
  obtain ⟨q, hq, hl, hv⟩ := sq_two
  have cS := fun (a : Option Addr) W h => Square_ok a 4 [1, 2, -1, -2] W h (by decide)
  have HQ := Lib.hid hq
  go_enter Tryz.func9, Tryz.ntmps9
  go_wp2_with (fail)
  refine (cS (some ⟨w.heap.size, 0, none⟩) _ (.inr ⟨w.heap.size, 0, rfl, fun i x hx => by
    match i, hx with
    | 0, hx => simp at hx; subst hx; simp [go_sem]
    | 1, hx => simp at hx; subst hx; simp [go_sem]
    | 2, hx => simp at hx; subst hx; simp [go_sem]
    | 3, hx => simp at hx; subst hx; simp [go_sem]
    | n + 4, hx => simp at hx⟩)).mono ?_
  rintro e w1 ⟨hr, hw1⟩
  have hb : Below w.heap.size w w1 := by repeat (first | (with_reducible exact Below.refl _ _) | (with_reducible refine Below.setCell ?_ ?_ _) | (with_reducible refine Below.drew ?_) | (with_reducible refine Below.alloc ?_ ?_ _) | (with_reducible refine Below.trans ?_ (Below.mono hw1 ?_)) | (with_reducible exact hw1.size) | omega | (simp <;> omega) | (simp <;> (have s := hw1.size; omega)) | (have s0 := hw1.size; (try simp at s0); (try simp); omega))
  rcases hr with ⟨-, a, c, es, rfl, hT, hm⟩ | ⟨h1, -⟩
  · rw [HQ.out] at hm
    obtain ⟨a1, k1, a2, k2, rfl⟩ := two_es hm
    obtain ⟨b, off, rfl, x0, x1, -⟩ := hT.o.at_ (k := 0) (by simp)
    obtain ⟨b', off', he, x2, x3, -⟩ := hT.o.at_ (k := 1) (by simp)
    simp only [Option.some.injEq, Addr.mk.injEq, and_true] at he
    obtain ⟨rfl, rfl⟩ := he
    simp only [List.getElem_cons_zero, List.getElem_cons_succ, List.length_nil, hl, List.length_cons, Nat.zero_mul, Nat.one_mul, Nat.add_zero, Nat.zero_add] at x0 x1 x2 x3 hT ⊢
    clear hT hw1 hm hq hv
    go_wp2
    go_ret
    exact ⟨rfl, hb⟩
  · rw [HQ.out] at h1
    exact absurd hv h1
end Go.Proofs.YtjidbajcnomceaaGreat
