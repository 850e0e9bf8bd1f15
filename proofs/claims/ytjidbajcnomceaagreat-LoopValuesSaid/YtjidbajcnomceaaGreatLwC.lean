/- The value of a sum of loops, as the document's answers make it.
Conditions: the lists lie in memory as it is written at each theorem. -/
import Derived.Test.YtjidbajcnomceaaGreatLvC
import Derived.Test.YtjidbajcnomceaaGreatLmA
import Derived.Test.YtjidbajcnomceaaGreatLqA
import Derived.Test.YtjidbajcnomceaaGreatLoopY
namespace Go.Proofs.YtjidbajcnomceaaGreat
set_option linter.unusedVariables false
set_option linter.unusedSimpArgs false
set_option maxRecDepth 1000000
open Go.RowKit
open Um Tm Lm

set_option maxHeartbeats 1600000 in
theorem refValue3_bad (a b c s r : Int) (fo lo : Option Addr) (cap lc : Nat) (L : List Q) (l : List E) (w : World) (hL : LiesO w fo L) (hl : Trs w lo l) (hr : asR a b c L s [] r) (h0 : r ≠ 0) (hlen : L.length ≤ 1000000) : Calls Tryz.prog 27 #[.agg #[.int .i64 a, .int .i64 b, .int .i64 c, .slice fo L.length cap], .int .i64 s, .slice lo l.length lc] w fun e w' => e = .returned (.tuple #[z2, .int .i64 r]) ∧ Below w.heap.size w w' := by
  have c1 := fun (W : World) (h : LiesO W fo L) => asked_any a b c s r fo none cap 0 L [] W h (.inl rfl) hr hlen (by simp)
  have H := Lib.hid hL
  have h0' : (r != 0) = true := by simpa using h0
  clear hL hl hr h0
  simp only [List.length_nil] at c1
  go_enter Tryz.func27, Tryz.ntmps27
  go_wp2_with (fail)
  refine (c1 _ (H.out.later (by repeat (first | (with_reducible exact Below.refl _ _) | (with_reducible refine Below.setCell ?_ ?_ _) | (with_reducible refine Below.drew ?_) | (with_reducible refine Below.alloc ?_ ?_ _) | omega | (simp <;> omega))))).mono ?_
  rintro e w1 ⟨rfl, hw1⟩
  have hc1 := Tail.cells hw1
  have zw10 := Nat.lt_of_lt_of_le (n := w.heap.size) (by simp <;> omega) hw1.size; have zw11 := Nat.lt_of_lt_of_le (n := w.heap.size + 1) (by simp <;> omega) hw1.size
  go_wp2
  refine bodyPost_ret (v := .tuple #[z2, .int .i64 r]) ?_ rfl ⟨rfl, ?_⟩
  · simp [results, Tryz.results27, go_sem, hc1, zw10, zw11, z2]
  · repeat (first | (with_reducible exact Below.refl _ _) | (with_reducible refine Below.setCell ?_ ?_ _) | (with_reducible refine Below.drew ?_) | (with_reducible refine Below.alloc ?_ ?_ _) | (with_reducible refine Below.trans ?_ (Below.mono hw1 ?_)) | (with_reducible exact hw1.size) | omega | (simp <;> omega) | (simp <;> (have s := hw1.size; omega)) | (have s0 := hw1.size; (try simp at s0); (try simp); omega))
set_option maxHeartbeats 1600000 in
theorem refValue3_terms (a b c s : Int) (bl off : Nat) (lo : Option Addr) (cap lc : Nat) (L : List Q) (l : List E) (w : World) (hL : Lies w bl off L) (hl : Trs w lo l) (hr : asR a b c L s [] 0) (h0 : vT (tm l) ≠ 0) (hlen : l.length ≤ 1000000) (hp : ∀ e ∈ l, e.p.length ≤ 1000000) : Calls Tryz.prog 27 #[.agg #[.int .i64 a, .int .i64 b, .int .i64 c, .slice (some ⟨bl, off, none⟩) L.length cap], .int .i64 s, .slice lo l.length lc] w fun e w' => e = .returned (.tuple #[z2, .int .i64 (vT (tm l))]) ∧ Below w.heap.size w w' := by
  have hlen2 := fld_len (Fl_fldR (asR_ok hr).1)
  have c1 := fun (W : World) (h : Lies W bl off L) => asked_any a b c s 0 (some ⟨bl, off, none⟩) none cap 0 L [] W (.inr ⟨bl, off, rfl, h⟩) (.inl rfl) hr (by omega) (by simp)
  have c2 := fun (W : World) (h : Trs W lo l) => refVT_any lo lc l W h hlen hp
  generalize vT (tm l) = r at *
  have H := Lib.hid hL
  have H2 := Lib.hid hl
  have h0' : (r != 0) = true := by simpa using h0
  clear hL hl hr h0 hp
  simp only [List.length_nil] at c1
  go_enter Tryz.func27, Tryz.ntmps27
  go_wp2_with (fail)
  refine (c1 _ (H.out.later (by repeat (first | (with_reducible exact Below.refl _ _) | (with_reducible refine Below.setCell ?_ ?_ _) | (with_reducible refine Below.drew ?_) | (with_reducible refine Below.alloc ?_ ?_ _) | omega | (simp <;> omega))))).mono ?_
  rintro e w1 ⟨rfl, hw1⟩
  have hc1 := Tail.cells hw1
  have zw10 := Nat.lt_of_lt_of_le (n := w.heap.size) (by simp <;> omega) hw1.size; have zw11 := Nat.lt_of_lt_of_le (n := w.heap.size + 1) (by simp <;> omega) hw1.size
  go_wp2_with (fail)
  refine (c2 _ (H2.out.later (by repeat (first | (with_reducible exact Below.refl _ _) | (with_reducible refine Below.setCell ?_ ?_ _) | (with_reducible refine Below.drew ?_) | (with_reducible refine Below.alloc ?_ ?_ _) | (with_reducible refine Below.trans ?_ (Below.mono hw1 ?_)) | (with_reducible exact hw1.size) | omega | (simp <;> omega) | (simp <;> (have s := hw1.size; omega)) | (have s0 := hw1.size; (try simp at s0); (try simp); omega))))).mono ?_
  rintro e w2 ⟨rfl, hw2⟩
  have hc2 := Tail.cells hw2
  have y0 := Nat.lt_of_lt_of_le zw10 hw2.size
  have y1 := Nat.lt_of_lt_of_le zw11 hw2.size
  go_wp2
  refine bodyPost_ret (v := .tuple #[z2, .int .i64 r]) ?_ rfl ⟨rfl, ?_⟩
  · simp [results, Tryz.results27, go_sem, hc1, hc2, zw10, zw11, y0, y1, z2]
  · repeat (first | (with_reducible exact Below.refl _ _) | (with_reducible refine Below.setCell ?_ ?_ _) | (with_reducible refine Below.drew ?_) | (with_reducible refine Below.alloc ?_ ?_ _) | (with_reducible refine Below.trans ?_ (Below.mono hw2 ?_)) | (with_reducible refine Below.trans ?_ (Below.mono hw1 ?_)) | (with_reducible exact hw2.size) | (with_reducible exact hw1.size) | omega | (simp <;> omega) | (simp <;> (have s := hw2.size; omega)) | (simp <;> (have s := hw1.size; omega)) | (have s0 := hw2.size; (try simp at s0); have s1 := hw1.size; (try simp at s1); (try simp); omega))
theorem liesOI_rw {W : World} {ao : Option Addr} {l : List Int} (h : LiesOI W ao l) (d : Nat) (os : Array Obj) : LiesOI (Sort.grow (redrawn W d) os) ao l := by
  rcases h with h | ⟨b, o, h, hl⟩
  · exact .inl h
  · exact .inr ⟨b, o, h, fun i x hx => by
      have f := hl i x hx
      exact (Tail.cell_re W d os _ (World.block_lt_of_cell? W _ f)).trans f⟩
theorem RB.far {w w1 : World} {b : Nat} {r : Int × Int} {row : Option Nat} (h : RB w b r) (hg : w.grownBy w1 row) (hne : some b ≠ row) : RB w1 b r :=
  ⟨hg.cell h.c0 hne, hg.cell h.c1 hne, fun j => (World.frozen?_of_block (a := ⟨b, j, none⟩) (hg.block b h.lt hne)).trans (h.free j), Nat.lt_of_lt_of_le h.lt hg.size⟩
def valD (T : List (Int × Int)) (n j : Nat) : Value := if j = n then .tuple #[.agg #[.int .i64 ((rat (sumA (lcmR T) T) (lcmR T * 1))).1, .int .i64 ((rat (sumA (lcmR T) T) (lcmR T * 1))).2], .int .i64 0] else .tuple #[z2, .int .i64 6]
set_option maxHeartbeats 6400000 in
theorem refValue3_any (a b c s : Int) (bl off : Nat) (lo : Option Addr) (cap lc : Nat) (L : List Q) (l : List E) (j : Nat) (w : World) (hL : Lies w bl off L) (hl : Trs w lo l) (hF : Fl a b c L) (s0 : 0 ≤ s) (s1 : s < a * b * c) (hv : vT (tm l) = 0) (hj : j ≤ l.length) (hc : ∀ (i : Nat) (h : i < l.length), i < j → en a b c s l[i].p = s) (ho : ∀ (h : j < l.length), en a b c s l[j].p ≠ s) : Calls Tryz.prog 27 #[.agg #[.int .i64 a, .int .i64 b, .int .i64 c, .slice (some ⟨bl, off, none⟩) L.length cap], .int .i64 s, .slice lo l.length lc] w fun e w' => e = .returned (valD (vals a b c L s ((tm l).take j)) l.length j) ∧ Below w.heap.size w w' := by
  have hok := vT_ok hv
  have hl40 : l.length ≤ 40 := by have := hok.1; rwa [tm_len] at this
  have hpl : ∀ (i : Nat) (h : i < l.length), (-1000 ≤ l[i].c ∧ l[i].c ≤ 1000) ∧ l[i].p.length ≤ 8 ∧ ∀ t ∈ l[i].p, IsStep t := fun i h => hok.2 (l[i].c, l[i].p) (List.mem_map.2 ⟨l[i], List.getElem_mem h, rfl⟩)
  have hr : asR a b c L s [] 0 := .inr ⟨Fl_fldR hF, .inr ⟨hF.z, s0, s1, .inr (.inr ⟨by simp, by simp, rfl⟩)⟩⟩
  have hlen2 := fld_len (Fl_fldR hF)
  have c1 := fun (W : World) (h : Lies W bl off L) => asked_any a b c s 0 (some ⟨bl, off, none⟩) none cap 0 L [] W (.inr ⟨bl, off, rfl, h⟩) (.inl rfl) hr (by omega) (by simp)
  have c2 := fun (W : World) (h : Trs W lo l) => refVT_any lo lc l W h (by omega) (fun e he => by
    obtain ⟨i, hi, rfl⟩ := List.getElem_of_mem he
    have := (hpl i hi).2.1
    omega)
  rw [hv] at c2
  simp only [List.length_nil] at c1
  obtain ⟨VL, hVL⟩ : ∃ VL, VL = vals a b c L s ((tm l).take j) := ⟨_, rfl⟩
  have hVLn : VL.length = j := by rw [hVL]; simp [vals, tm]; omega
  have hVg : ∀ (k : Nat) (hk : k < j) (hkl : k < l.length) (hk2 : k < VL.length), VL[k] = (l[k].c * (tr (al a b c L s l[k].p)).1, (tr (al a b c L s l[k].p)).2) := fun k hk hkl hk2 => by
    subst hVL
    simp [vals, tm]
  have hVr : ∀ r ∈ VL, Rt 2000 r := fun r hr => by
    rw [hVL] at hr
    have hV : Val a b c s ((tm l).take j) := by
      refine ⟨fun t ht => ?_, fun t ht => ?_, fun t ht => ?_, ?_⟩
      · have := hok.2 t (List.mem_of_mem_take ht)
        exact ⟨this.2.2, this.2.1⟩
      · obtain ⟨i, hi, rfl⟩ := List.getElem_of_mem ht
        rw [List.length_take, tm_len] at hi
        have := hc i (by omega) (by omega)
        simpa [tm] using this
      · have := hok.2 t (List.mem_of_mem_take ht)
        exact this.1
      · rw [List.length_take, tm_len]; omega
    exact (vals_rt hF s0 s1 hV).1 r hr
  have cT := fun (lo : Option Addr) (cap : Nat) (W : World) (h : LiesOI W lo (rl VL)) => total3_any lo cap VL 1 W h (by omega) hVr (by omega) (by omega)
  have key : ∀ (k : Nat) (hk : k < j) (hkl : k < l.length) (hk2 : k < VL.length), ∃ r, TermF a b c L s l[k] r ∧ VL[k] = (l[k].c * r.1, r.2) := fun k hk hkl hk2 => by
    obtain ⟨hc1, h8, hst⟩ := hpl k hkl
    exact ⟨_, term_f hF s0 s1 hst h8 hc1 (hc k hkl hk), hVg k hk hkl hk2⟩
  have c3 := fun (W : World) (k : Nat) (hkl : k < l.length) (hk : k < j) (h : Lies W bl off L) (h2 : LiesOI W l[k].a l[k].p) => refTraceOf_any a b c s bl off cap l[k].k l[k].a L l[k].p W hF s0 s1 h h2 (hpl k hkl).2.2 (hpl k hkl).2.1
  have c4 := fun (W : World) (k : Nat) (hkl : k < l.length) (hk : k < j) (h2 : LiesOI W l[k].a l[k].p) => refClosed_any a b c true l[k].a l[k].k l[k].p W hF.z h2 (hpl k hkl).2.2 (hpl k hkl).2.1 (.inl ⟨(closed_iff hF.z s0 s1 _).1 (hc k hkl hk), rfl⟩)
  have c5 := fun (W : World) (hkl : j < l.length) (h2 : LiesOI W l[j].a l[j].p) => refClosed_any a b c false l[j].a l[j].k l[j].p W hF.z h2 (hpl j hkl).2.2 (hpl j hkl).2.1 (.inr ⟨fun e => ho hkl ((closed_iff hF.z s0 s1 _).2 e), rfl⟩)
  obtain ⟨i0, hi, hz0, hz1, hz2⟩ := info_parts infoRt
  have H := Lib.hid hL
  have H2 := Lib.hid hl
  have KEY := Lib.hid key
  have C3 := Lib.hid c3
  have C4 := Lib.hid c4
  have C5 := Lib.hid c5
  have CT := Lib.hid cT
  have HN := Lib.hid hVLn
  have H0 := Lib.hid (show (rl (VL.take 0)).map vi = [] by rw [List.take_zero]; rfl)
  rw [← hVL]
  clear hL hl hF s0 s1 hv hc ho hok hpl hr hVg hVr key c3 c4 c5 cT hVL hVLn hlen2
  go_enter Tryz.func27, Tryz.ntmps27
  go_wp2_with (fail)
  refine (c1 _ (H.out.later (by repeat (first | (with_reducible exact Below.refl _ _) | (with_reducible refine Below.setCell ?_ ?_ _) | (with_reducible refine Below.drew ?_) | (with_reducible refine Below.alloc ?_ ?_ _) | omega | (simp <;> omega))))).mono ?_
  rintro e w1 ⟨rfl, hw1⟩
  have f1 : FW w1 w.heap.size a b c (.slice (some ⟨bl, off, none⟩) L.length cap) := FW.n2a.later hw1
  have r1 : RB w1 (w.heap.size + 1) (0, 0) := (⟨by simp [go_sem], by simp [go_sem], fun j => by simp [go_sem], by simp <;> omega⟩ : RB ((w.alloc (.cells #[.int .i64 a, .int .i64 b, .int .i64 c, .slice (some ⟨bl, off, none⟩) L.length cap] 25)).alloc (.cells #[.int .i64 0, .int .i64 0] 32)) (w.heap.size + 1) (0, 0)).later hw1
  have b1 : Below w.heap.size w w1 := by repeat (first | (with_reducible exact Below.refl _ _) | (with_reducible refine Below.setCell ?_ ?_ _) | (with_reducible refine Below.drew ?_) | (with_reducible refine Below.alloc ?_ ?_ _) | (with_reducible refine Below.trans ?_ (Below.mono hw1 ?_)) | (with_reducible exact hw1.size) | omega | (simp <;> omega) | (simp <;> (have s := hw1.size; omega)) | (have s0 := hw1.size; (try simp at s0); (try simp); omega))
  go_wp2_with (fail)
  refine (c2 _ (H2.out.later (by repeat (first | (with_reducible exact Below.refl _ _) | (with_reducible refine Below.setCell ?_ ?_ _) | (with_reducible refine Below.drew ?_) | (with_reducible refine Below.alloc ?_ ?_ _) | (with_reducible refine Below.trans ?_ (Below.mono hw1 ?_)) | (with_reducible exact hw1.size) | omega | (simp <;> omega) | (simp <;> (have s := hw1.size; omega)) | (have s0 := hw1.size; (try simp at s0); (try simp); omega))))).mono ?_
  rintro e w2 ⟨rfl, hw2⟩
  have f2 := Lib.hid (f1.later hw2)
  have r2 := Lib.hid (r1.later hw2)
  have b2 : Below w.heap.size w w2 := by repeat (first | (with_reducible exact Below.refl _ _) | (with_reducible refine Below.setCell ?_ ?_ _) | (with_reducible refine Below.drew ?_) | (with_reducible refine Below.alloc ?_ ?_ _) | (with_reducible refine Below.trans ?_ (Below.mono hw2 ?_)) | (with_reducible refine Below.trans ?_ (Below.mono b1 ?_)) | (with_reducible exact hw2.size) | (with_reducible exact b1.size) | omega | (simp <;> omega) | (simp <;> (have s := hw2.size; omega)) | (simp <;> (have s := b1.size; omega)) | (have s0 := hw2.size; (try simp at s0); have s1 := b1.size; (try simp at s1); (try simp); omega))
  clear hw1 f1 r1 b1 c1 c2 hw2
  have s2 := r2.out.lt
  have s3 := b2.size
  go_wp2
  go_loopw [10, 11, 12] (fun f q _ wr => ∃ (k : Nat) (v : Value), k ≤ j ∧ q = .int .i64 k ∧ v = f ∧ Hid (wr.ownsRow w2.heap.size 32 2 v k ((rl (VL.take k)).map vi)) ∧ Hid (FW wr w.heap.size a b c (.slice (some ⟨bl, off, none⟩) L.length cap)) ∧ Hid (RB wr (w.heap.size + 1) (0, 0)) ∧ Below w2.heap.size w2 wr) (fun _ q _ _ => l.length - (intOf q).toNat)
  case atStart => exact ⟨0, _, by omega, rfl, rfl, Lib.hid (by rw [H0.out]; exact World.ownsRow_nil _ _ _ _), f2, r2, Below.refl _ _⟩
  case round =>
    obtain ⟨k, v, hk, rfl, rfl, hown, hf, hr, hb⟩ := hrel
    clear f2 r2
    have hbs := hb.size
    have hbw : Below w.heap.size w wr := b2.trans (hb.mono s3)
    by_cases hlt : k < l.length
    · have i1 : (k : Int) < (l.length : Int) := by omega
      obtain ⟨pb, po, rfl, x0, x1, hpx⟩ := (H2.out.later hbw).at_ hlt
      have HPX := Lib.hid hpx
      have xl := World.block_lt_of_cell? wr _ x0
      obtain ⟨f0, f1, f2, f3, ff, fl⟩ := hf.out
      have kc := @Tail.cell_re
      by_cases hkj : k < j
      · have hk2 : k < VL.length := by have := HN.out; omega
        obtain ⟨r, hT, hVk⟩ := KEY.out k hkj hlt hk2
        have q1 := rl_take hk2
        rw [hVk] at q1
        have d3 := fun (W : World) (h : Lies W bl off L) (h2 : LiesOI W l[k].a l[k].p) => C3.out W k hlt hkj h h2
        have d4 := fun (W : World) (h2 : LiesOI W l[k].a l[k].p) => C4.out W k hlt hkj h2
        rw [← hT.e] at d3
        obtain ⟨-, -, q2, q3, -, -, -⟩ := hT
        have m1 : IntKind.i64.wrap (l[k].c * r.1) = l[k].c * r.1 := IntWalk.i64_in _ (by omega)
        generalize l[k] = e at *
        obtain ⟨ec, ep, ea, ek⟩ := e
        simp only at x0 x1 d3 d4 q1 q2 q3 m1 HPX
        have Q1 := Lib.hid q1
        clear q1 hVk hpx
        obtain ⟨t1, t2⟩ := r
        simp only at q2 q3 m1 d3 Q1
        go_wp2
        refine Tail.region_below (by kernel_rfl) (by kernel_rfl) ?_
        repeat (go_big_quiet_step (first | (with_reducible exact Calls.regrown_of (d4 _ (liesOI_rw HPX.out _ _)))))
        refine wpQuiet_nil ?_
        intro w3 hw3
        have hf3 := Lib.hid (hf.out.later hw3)
        have hr3 := Lib.hid (hr.out.later hw3)
        have HP3 := Lib.hid (HPX.out.later hw3)
        have HO3 := Lib.hid (owned_later hown.out hw3)
        have b3 : Below w2.heap.size w2 w3 := by repeat (first | (with_reducible exact Below.refl _ _) | (with_reducible refine Below.setCell ?_ ?_ _) | (with_reducible refine Below.drew ?_) | (with_reducible refine Below.alloc ?_ ?_ _) | (with_reducible refine Below.trans ?_ (Below.mono hw3 ?_)) | (with_reducible refine Below.trans ?_ (Below.mono hb ?_)) | (with_reducible exact hw3.size) | (with_reducible exact hb.size) | omega | (simp <;> omega) | (simp <;> (have s := hw3.size; omega)) | (simp <;> (have s := hb.size; omega)) | (have s0 := hw3.size; (try simp at s0); have s1 := hb.size; (try simp at s1); (try simp); omega))
        have b3w : Below w.heap.size w w3 := b2.trans (b3.mono s3)
        have HT3 := Lib.hid (H2.out.later b3w)
        have s4 := b3.size
        have X0 := (hw3.cell xl).trans x0
        have X1 := (hw3.cell xl).trans x1
        have xl3 := Nat.lt_of_lt_of_le xl hw3.size
        clear x0 x1 f0 f1 f2 f3 ff fl hf hr hown HPX hw3 hb hbs hbw d4 xl
        obtain ⟨f0, f1, f2, f3, ff, fl⟩ := hf3.out
        have rl3 := hr3.out.lt
        go_wp2
        apply Wide.region_one 8 (.cells #[.int .i64 0, .int .i64 0] 32) (some 12) (by kernel_rfl) (by kernel_rfl) (by kernel_rfl) ⟨_, rfl, rfl, fun a W => ⟨rfl, by simp [go_sem]⟩⟩
        · intro B hB
          have hcB := Tail.cells hB
          have zB0 := Nat.lt_of_lt_of_le fl hB.size
          have zB1 := Nat.lt_of_lt_of_le xl3 hB.size
          have LB : Lies B bl off L := H.out.later (b3w.trans (hB.mono b3w.size))
          have PB := HP3.out.later hB
          simp only [List.take_succ_cons, List.take_zero]
          repeat (go_big_quiet_step (first | (with_reducible exact Calls.regrown_of (d3 _ (lies_re LB _ _) (liesOI_rw PB _ _)))))
          exact wpQuiet_nil rfl
        · intro b w4 hb4 hw4 hx4
          simp only [List.drop_succ_cons, List.drop_zero]
          have k0 := Wide.cell_at hx4 0 _ rfl
          have k1 := Wide.cell_at hx4 1 _ rfl
          have kf := Wide.free_at hx4
          have kl := World.block_lt_of_cell? w4 _ k0
          have R4 : RB w4 b (0, 0) := ⟨k0, k1, kf, kl⟩
          have R5 := R4.put (t1, t2)
          have b5 : Below w3.heap.size w3 ((w4.setCell ⟨b, 0, none⟩ (.int .i64 t1)).setCell ⟨b, 1, none⟩ (.int .i64 t2)) := by repeat (first | (with_reducible exact Below.refl _ _) | (with_reducible refine Below.setCell ?_ ?_ _) | (with_reducible refine Below.drew ?_) | (with_reducible refine Below.alloc ?_ ?_ _) | (with_reducible refine Below.trans ?_ (Below.mono hw4 ?_)) | (with_reducible exact hw4.size) | omega | (simp <;> omega) | (simp <;> (have s := hw4.size; omega)) | (have s0 := hw4.size; (try simp at s0); (try simp); omega))
          clear f0 f1 f2 f3 ff fl hx4 R4 d3 kc
          go_wp2
          generalize (w4.setCell ⟨b, 0, none⟩ (.int .i64 t1)).setCell ⟨b, 1, none⟩ (.int .i64 t2) = w5 at *
          have x0 := (b5.cell xl3).trans X0
          have x1 := (b5.cell xl3).trans X1
          have xl5 := Nat.lt_of_lt_of_le xl3 b5.size
          have HO5 := Lib.hid (owned_later HO3.out b5)
          have hf5 := Lib.hid (hf3.out.later b5)
          have hr5 := Lib.hid (hr3.out.later b5)
          have b5w : Below w2.heap.size w2 w5 := b3.trans (b5.mono s4)
          have s5 := b5w.size
          clear k0 k1 kf kl hw4 X0 X1 HO3 hf3 hr3 b5 xl3
          obtain ⟨r0, r1, rf, rlt⟩ := R5
          have kc := @Tail.cell_re
          apply Made.region_one 12 (.cells #[.int .i64 (ec * t1), .int .i64 t2] 32) (fun g => .slice (some ⟨g, 0, none⟩) 1 1) (some 62) (by kernel_rfl) (by kernel_rfl) (by kernel_rfl)
          · intro B hB
            have hcB := Tail.cells hB
            have zB0 := Nat.lt_of_lt_of_le rlt hB.size
            have zB1 := Nat.lt_of_lt_of_le xl5 hB.size
            simp only [List.take_succ_cons, List.take_zero]
            repeat (go_big_quiet_step (fail))
            exact wpQuiet_nil rfl
          · refine ⟨_, rfl, rfl, fun W => ⟨rfl, ?_⟩⟩
            simp [execOp, go_sem]
          · intro g W hg hW hx
            show wpList _ _ _ (List.drop 13 _) _ _
            simp only [List.drop_succ_cons, List.drop_zero]
            have y0 := Wide.cell_at hx 0 _ rfl
            have y1 := Wide.cell_at hx 1 _ rfl
            have OO := Lib.hid (owned_later HO5.out hW)
            have hb6 : Below w2.heap.size w2 W := b5w.trans (hW.mono s5)
            have s6 := hb6.size
            have hfr := owned_from OO.out
            clear r0 r1 rf rlt hx x0 x1 kc
            go_wp2_with (at_builtin; refine wpList_append_own _ rfl (.tmp 50) (.tmp 62) 37 rfl w2.heap.size 32 i0 _ 2 16 Tryz.underlying37 hi hz0 hz1 hz2 rfl (by decide) v k ((rl (VL.take k)).map vi) rfl OO.out ⟨g, 0, none⟩ 1 1 [vi (ec * t1), vi t2] rfl rfl (two_cells rfl y0 y1) (rt_ones _ _) (by unfold maxLen; omega) (by omega) (by omega) ?_; intro v' w7 hown7 hgrow7 _)
            have b7 : Below w2.heap.size w2 w7 := hb6.grown hgrow7 s6 (fun j hj => by have := hfr j hj; omega)
            have hf7 := Lib.hid ((hf5.out.later hW).grown hgrow7 (owned_ne OO.out (b := w.heap.size) (by omega)))
            have hr7 := Lib.hid ((hr5.out.later hW).far hgrow7 (owned_ne OO.out (b := w.heap.size + 1) (by omega)))
            have ho : w7.ownsRow w2.heap.size 32 2 v' (k + 1) ((rl (VL.take (k + 1))).map vi) := by rw [Q1.out]; exact hown7
            clear hown7 hgrow7 OO
            exact ⟨⟨k + 1, _, by omega, by go_num, rfl, Lib.hid ho, hf7, hr7, b7⟩, by simp [intOf]; omega⟩
      · obtain rfl : k = j := by omega
        have d5 := fun (W : World) (h2 : LiesOI W l[k].a l[k].p) => C5.out W hlt h2
        have hne : k ≠ l.length := by omega
        generalize l[k] = e at *
        obtain ⟨ec, ep, ea, ek⟩ := e
        simp only at x0 x1 d5 HPX
        clear hpx
        go_wp2
        refine Tail.region_below (by kernel_rfl) (by kernel_rfl) ?_
        repeat (go_big_quiet_step (first | (with_reducible exact Calls.regrown_of (d5 _ (liesOI_rw HPX.out _ _)))))
        refine wpQuiet_nil ?_
        intro w3 hw3
        obtain ⟨g0, g1, gf, gl⟩ := hr.out.later hw3
        go_wp2
        refine bodyPost_ret (v := .tuple #[z2, .int .i64 6]) ?_ rfl ⟨by unfold valD; rw [if_neg hne], ?_⟩
        · simp [results, Tryz.results27, go_sem, g0, g1, gl, z2]
        · repeat (first | (with_reducible exact Below.refl _ _) | (with_reducible refine Below.setCell ?_ ?_ _) | (with_reducible refine Below.drew ?_) | (with_reducible refine Below.alloc ?_ ?_ _) | (with_reducible refine Below.trans ?_ (Below.mono hw3 ?_)) | (with_reducible refine Below.trans ?_ (Below.mono hbw ?_)) | (with_reducible exact hw3.size) | (with_reducible exact hbw.size) | omega | (simp <;> omega) | (simp <;> (have s := hw3.size; omega)) | (simp <;> (have s := hbw.size; omega)) | (have s0 := hw3.size; (try simp at s0); have s1 := hbw.size; (try simp at s1); (try simp); omega))
    · obtain rfl : k = l.length := by omega
      obtain rfl : j = l.length := by omega
      have e : VL.take l.length = VL := List.take_of_length_le (by rw [HN.out]; exact Nat.le_refl _)
      have ho := hown.out
      rw [e] at ho
      obtain ⟨ao, cv, rfl, hli⟩ := rl_owned ho HN.out
      have cT := CT.out ao cv wr hli
      rw [HN.out] at cT
      clear hown ho hli e
      obtain ⟨g0, g1, gf, gl⟩ := hr.out
      go_wp2_with (fail)
      refine cT.mono ?_
      rintro e w3 ⟨rfl, hw3⟩
      obtain ⟨g0', g1', gf', gl'⟩ := hr.out.later hw3
      go_wp2
      refine bodyPost_ret (v := .tuple #[.agg #[.int .i64 ((rat (sumA (lcmR VL) VL) (lcmR VL * 1))).1, .int .i64 ((rat (sumA (lcmR VL) VL) (lcmR VL * 1))).2], .int .i64 0]) ?_ rfl ⟨by unfold valD; rw [if_pos rfl], ?_⟩
      · simp [results, Tryz.results27, go_sem, g0', g1', gl']
      · repeat (first | (with_reducible exact Below.refl _ _) | (with_reducible refine Below.setCell ?_ ?_ _) | (with_reducible refine Below.drew ?_) | (with_reducible refine Below.alloc ?_ ?_ _) | (with_reducible refine Below.trans ?_ (Below.mono hw3 ?_)) | (with_reducible refine Below.trans ?_ (Below.mono hbw ?_)) | (with_reducible exact hw3.size) | (with_reducible exact hbw.size) | omega | (simp <;> omega) | (simp <;> (have s := hw3.size; omega)) | (simp <;> (have s := hbw.size; omega)) | (have s0 := hw3.size; (try simp at s0); have s1 := hbw.size; (try simp at s1); (try simp); omega))
end Go.Proofs.YtjidbajcnomceaaGreat
