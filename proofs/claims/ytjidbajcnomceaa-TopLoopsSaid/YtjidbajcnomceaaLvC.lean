/- The value of a sum of loops, as the program makes it.
Conditions: the lists lie in memory as it is written at each theorem. -/
import Derived.Test.YtjidbajcnomceaaLtM
import Derived.Test.YtjidbajcnomceaaLtC
import Derived.Test.YtjidbajcnomceaaLmA
import Derived.Test.YtjidbajcnomceaaLooA
namespace Go.Proofs.Ytjidbajcnomceaa
set_option linter.unusedVariables false
set_option linter.unusedSimpArgs false
set_option maxRecDepth 1000000
open Go.RowKit
open Um Tm Lm

/-- what a term of a sum leads to -/
structure TermF (a b c : Int) (L : List Q) (s : Int) (e : E) (r : Int × Int) : Prop where
  r0 : 0 < r.2
  r1 : r.2 ≤ 2562890625
  x0 : -5125781250000 ≤ e.c * r.1
  x1 : e.c * r.1 ≤ 5125781250000
  ask : asR a b c L s e.p 0
  cl : en a b c s e.p = s
  e : r = tr (al a b c L s e.p)
theorem term_f {a b c : Int} {L : List Q} {s : Int} (hF : Fl a b c L) (h0 : 0 ≤ s) (h1 : s < a * b * c) {e : E} (hs : ∀ x ∈ e.p, IsStep x) (h8 : e.p.length ≤ 8) (hc : -1000 ≤ e.c ∧ e.c ≤ 1000) (hcl : en a b c s e.p = s) : TermF a b c L s e (tr (al a b c L s e.p)) := by
  have hr := tr_rt (ups a b c L s e.p) (hF.ups s e.p h0 h1 hs) (by rw [ups_len]; exact h8)
  have hm := mul_Rt (k := 2) (m := 1000) hr hc.1 hc.2 (by omega)
  have hle := Int.le_of_dvd MM_pos hr.dvd
  have eMM : MM = 2562890625 := rfl
  have e1 : tr (low (fm (ups a b c L s e.p))) = tr (al a b c L s e.p) := rfl
  rw [e1] at hm hle hr
  have hlo : -(1000 * 2 * (tr (al a b c L s e.p)).2) ≤ e.c * (tr (al a b c L s e.p)).1 := hm.lo
  have hhi : e.c * (tr (al a b c L s e.p)).1 ≤ 1000 * 2 * (tr (al a b c L s e.p)).2 := hm.hi
  exact ⟨hr.pos, by omega, by omega, by omega, .inr ⟨Fl_fldR hF, .inr ⟨hF.z, h0, h1, .inr (.inr ⟨h8, hs, rfl⟩)⟩⟩, hcl, rfl⟩
theorem valsL_get (a b c : Int) (L : List Q) (s : Int) (l : List E) (k : Nat) (hk : k < l.length) (h2 : k < (valsL a b c L s (tm l)).length) : (valsL a b c L s (tm l))[k] = rat (l[k].c * (tr (al a b c L s l[k].p)).1) (tr (al a b c L s l[k].p)).2 := by
  simp [valsL, tm]
theorem valsL_len (a b c : Int) (L : List Q) (s : Int) (l : List Trm) : (valsL a b c L s l).length = l.length := by simp [valsL]
set_option maxHeartbeats 1600000 in
theorem value3_bad (a b c s r : Int) (fo lo : Option Addr) (cap lc : Nat) (L : List Q) (l : List E) (w : World) (hL : LiesO w fo L) (hl : Trs w lo l) (hr : asR a b c L s [] r) (h0 : r ≠ 0) (hlen : L.length ≤ 1000000) : Calls Try.prog 32 #[.agg #[.int .i64 a, .int .i64 b, .int .i64 c, .slice fo L.length cap], .int .i64 s, .slice lo l.length lc] w fun e w' => e = .returned (.tuple #[z2, .int .i64 r]) ∧ Below w.heap.size w w' := by
  have c1 := fun (W : World) (h : LiesO W fo L) => alongO_bad a b c s r fo none cap 0 L [] W h (.inl rfl) hr h0 hlen (by simp)
  have H := Lib.hid hL
  have h0' : (r != 0) = true := by simpa using h0
  clear hL hl hr h0
  simp only [List.length_nil] at c1
  go_enter Try.func32, Try.ntmps32
  go_wp2_with (fail)
  refine (c1 _ (H.out.later (by repeat (first | (with_reducible exact Below.refl _ _) | (with_reducible refine Below.setCell ?_ ?_ _) | (with_reducible refine Below.drew ?_) | (with_reducible refine Below.alloc ?_ ?_ _) | omega | (simp <;> omega))))).mono ?_
  rintro e w1 ⟨rfl, hw1⟩
  have hc1 := Tail.cells hw1
  have zw10 := Nat.lt_of_lt_of_le (n := w.heap.size) (by simp <;> omega) hw1.size; have zw11 := Nat.lt_of_lt_of_le (n := w.heap.size + 1) (by simp <;> omega) hw1.size
  go_wp2
  refine bodyPost_ret (v := .tuple #[z2, .int .i64 r]) ?_ rfl ⟨rfl, ?_⟩
  · simp [results, Try.results32, go_sem, hc1, zw10, zw11, z2]
  · repeat (first | (with_reducible exact Below.refl _ _) | (with_reducible refine Below.setCell ?_ ?_ _) | (with_reducible refine Below.drew ?_) | (with_reducible refine Below.alloc ?_ ?_ _) | (with_reducible refine Below.trans ?_ (Below.mono hw1 ?_)) | (with_reducible exact hw1.size) | omega | (simp <;> omega) | (simp <;> (have s := hw1.size; omega)) | (have s0 := hw1.size; (try simp at s0); (try simp); omega))
set_option maxHeartbeats 1600000 in
theorem value3_terms (a b c s : Int) (bl off : Nat) (lo : Option Addr) (cap lc : Nat) (L : List Q) (l : List E) (w : World) (hL : Lies w bl off L) (hl : Trs w lo l) (hr : asR a b c L s [] 0) (h0 : vT (tm l) ≠ 0) (hlen : l.length ≤ 1000000) (hp : ∀ e ∈ l, e.p.length ≤ 1000000) : Calls Try.prog 32 #[.agg #[.int .i64 a, .int .i64 b, .int .i64 c, .slice (some ⟨bl, off, none⟩) L.length cap], .int .i64 s, .slice lo l.length lc] w fun e w' => e = .returned (.tuple #[z2, .int .i64 (vT (tm l))]) ∧ Below w.heap.size w w' := by
  have c1 := fun (W : World) (h : Lies W bl off L) => alongO_ok a b c s bl off none cap 0 L [] W h (.inl rfl) hr
  have c2 := fun (W : World) (h : Trs W lo l) => validateTerms_any lo lc l W h hlen hp
  generalize vT (tm l) = r at *
  have H := Lib.hid hL
  have H2 := Lib.hid hl
  have h0' : (r != 0) = true := by simpa using h0
  clear hL hl hr h0 hp
  simp only [List.length_nil] at c1
  generalize al a b c L s [] = x at *
  go_enter Try.func32, Try.ntmps32
  go_wp2_with (fail)
  refine (c1 _ (H.out.later (by repeat (first | (with_reducible exact Below.refl _ _) | (with_reducible refine Below.setCell ?_ ?_ _) | (with_reducible refine Below.drew ?_) | (with_reducible refine Below.alloc ?_ ?_ _) | omega | (simp <;> omega))))).mono ?_
  rintro e w1 ⟨rfl, hw1⟩
  have hc1 := Tail.cells hw1
  have zw10 := Nat.lt_of_lt_of_le (n := w.heap.size) (by simp <;> omega) hw1.size; have zw11 := Nat.lt_of_lt_of_le (n := w.heap.size + 1) (by simp <;> omega) hw1.size
  go_wp2_with (fail)
  refine (c2 _ (H2.out.later (by repeat (first | (with_reducible exact Below.refl _ _) | (with_reducible refine Below.setCell ?_ ?_ _) | (with_reducible refine Below.drew ?_) | (with_reducible refine Below.alloc ?_ ?_ _) | (with_reducible refine Below.trans ?_ (Below.mono hw1 ?_)) | (with_reducible exact hw1.size) | omega | (simp <;> omega) | (simp <;> (have s := hw1.size; omega)) | (have s0 := hw1.size; (try simp at s0); (try simp); omega))))).mono ?_
  rintro e w2 ⟨rfl, hw2⟩
  have hc2 := Tail.cells hw2
  have y0 : w.heap.size < w2.heap.size := by have := hw2.size; simp at this; omega
  have y1 : w.heap.size + 1 < w2.heap.size := by have := hw2.size; simp at this; omega
  go_wp2
  refine bodyPost_ret (v := .tuple #[z2, .int .i64 r]) ?_ rfl ⟨rfl, ?_⟩
  · simp [results, Try.results32, go_sem, hc1, hc2, zw10, zw11, y0, y1, z2]
  · repeat (first | (with_reducible exact Below.refl _ _) | (with_reducible refine Below.setCell ?_ ?_ _) | (with_reducible refine Below.drew ?_) | (with_reducible refine Below.alloc ?_ ?_ _) | (with_reducible refine Below.trans ?_ (Below.mono hw2 ?_)) | (with_reducible refine Below.trans ?_ (Below.mono hw1 ?_)) | (with_reducible exact hw2.size) | (with_reducible exact hw1.size) | omega | (simp <;> omega) | (simp <;> (have s := hw2.size; omega)) | (simp <;> (have s := hw1.size; omega)) | (have s0 := hw2.size; (try simp at s0); have s1 := hw1.size; (try simp at s1); (try simp); omega))
def valV (T : List (Int × Int)) (n j : Nat) : Value := if j = n then .tuple #[.agg #[.int .i64 ((acR T)).1, .int .i64 ((acR T)).2], .int .i64 0] else .tuple #[z2, .int .i64 6]
set_option maxHeartbeats 6400000 in
/-- the first j terms are closed, the next one, if there is one, is open -/
theorem value3_any (a b c s : Int) (bl off : Nat) (lo : Option Addr) (cap lc : Nat) (L : List Q) (l : List E) (j : Nat) (w : World) (hL : Lies w bl off L) (hl : Trs w lo l) (hF : Fl a b c L) (s0 : 0 ≤ s) (s1 : s < a * b * c) (hv : vT (tm l) = 0) (hj : j ≤ l.length) (hc : ∀ (i : Nat) (h : i < l.length), i < j → en a b c s l[i].p = s) (ho : ∀ (h : j < l.length), en a b c s l[j].p ≠ s) : Calls Try.prog 32 #[.agg #[.int .i64 a, .int .i64 b, .int .i64 c, .slice (some ⟨bl, off, none⟩) L.length cap], .int .i64 s, .slice lo l.length lc] w fun e w' => e = .returned (valV (valsL a b c L s ((tm l).take j)) l.length j) ∧ Below w.heap.size w w' := by
  have hok := vT_ok hv
  have hl40 : l.length ≤ 40 := by have := hok.1; rwa [tm_len] at this
  have hpl : ∀ (i : Nat) (h : i < l.length), (-1000 ≤ l[i].c ∧ l[i].c ≤ 1000) ∧ l[i].p.length ≤ 8 ∧ ∀ t ∈ l[i].p, IsStep t := fun i h => hok.2 (l[i].c, l[i].p) (List.mem_map.2 ⟨l[i], List.getElem_mem h, rfl⟩)
  have hr : asR a b c L s [] 0 := .inr ⟨Fl_fldR hF, .inr ⟨hF.z, s0, s1, .inr (.inr ⟨by simp, by simp, rfl⟩)⟩⟩
  have c1 := fun (W : World) (h : Lies W bl off L) => alongO_ok a b c s bl off none cap 0 L [] W h (.inl rfl) hr
  have c2 := fun (W : World) (h : Trs W lo l) => validateTerms_any lo lc l W h (by omega) (fun e he => by
    obtain ⟨i, hi, rfl⟩ := List.getElem_of_mem he
    have := (hpl i hi).2.1
    omega)
  rw [hv] at c2
  simp only [List.length_nil] at c1
  obtain ⟨VL, hVL⟩ : ∃ VL, VL = valsL a b c L s ((tm l).take j) := ⟨_, rfl⟩
  have hVLn : VL.length = j := by rw [hVL, valsL_len, List.length_take, tm_len]; omega
  have hVg : ∀ (k : Nat) (hk : k < j) (hk2 : k < VL.length), VL[k] = rat (l[k].c * (tr (al a b c L s l[k].p)).1) (tr (al a b c L s l[k].p)).2 := fun k hk hk2 => by
    subst hVL
    have e : (tm l).take j = tm (l.take j) := by simp [tm, List.map_take]
    have := valsL_get a b c L s (l.take j) k (by rw [List.length_take]; omega) (by rw [← e]; exact hk2)
    simp only [List.getElem_take] at this
    simp only [e]
    exact this
  have hVr : ∀ r ∈ VL, Rt 2000 r := fun r hr => by
    rw [hVL] at hr
    have hV : Val a b c s ((tm l).take j) := by
      refine ⟨fun t ht => ?_, fun t ht => ?_, fun t ht => ?_, ?_⟩
      · have := hok.2 t (List.mem_of_mem_take ht)
        exact ⟨this.2.2, this.2.1⟩
      · obtain ⟨i, hi, rfl⟩ := List.getElem_of_mem ht
        rw [List.length_take, tm_len] at hi
        have := hc i (by omega) (by omega)
        simpa [tm] using this
      · have := hok.2 t (List.mem_of_mem_take ht)
        exact this.1
      · rw [List.length_take, tm_len]; omega
    exact (vals_rt hF s0 s1 hV).2 r hr
  have key : ∀ (k : Nat) (hk : k < j) (hkl : k < l.length) (hk2 : k < VL.length), ∃ r, TermF a b c L s l[k] r ∧ (∀ W : World, Calls Try.prog 59 #[.int .i64 (l[k].c * r.1), .int .i64 r.2] W fun e w' => e = .returned (.agg #[.int .i64 (VL[k]).1, .int .i64 (VL[k]).2]) ∧ Below W.heap.size W w') ∧ (∀ W : World, Calls Try.prog 58 #[.agg #[.int .i64 ((acR (VL.take k))).1, .int .i64 ((acR (VL.take k))).2], .agg #[.int .i64 (VL[k]).1, .int .i64 (VL[k]).2]] W fun e w' => e = .returned (.agg #[.int .i64 ((acR (VL.take (k + 1)))).1, .int .i64 ((acR (VL.take (k + 1)))).2]) ∧ Below W.heap.size W w') := fun k hk hkl hk2 => by
    obtain ⟨hc1, h8, hst⟩ := hpl k hkl
    have hT := term_f hF s0 s1 hst h8 hc1 (hc k hkl hk)
    refine ⟨_, hT, fun W => ?_, fun W => ?_⟩
    · rw [hVg k hk hk2]
      exact lowest3_any _ _ W (by have := hT.x0; have := hT.x1; omega) (by have := hT.r0; have := hT.r1; omega)
    · have := plus3_any (acR (VL.take k)) VL[k] W ((acR_rt (by decide) hVr 40 (by omega) k).le (by decide)) ((hVr _ (List.getElem_mem hk2)).le (by decide))
      rw [acR_take hVr k hk2] at this
      exact this
  have c3 := fun (W : World) (k : Nat) (hkl : k < l.length) (hk : k < j) (h : Lies W bl off L) (h2 : LiesOI W l[k].a l[k].p) => traceL_ok a b c s bl off l[k].a cap l[k].k L l[k].p W h h2 (.inr ⟨Fl_fldR hF, .inr ⟨hF.z, s0, s1, .inr (.inr ⟨(hpl k hkl).2.1, (hpl k hkl).2.2, rfl⟩)⟩⟩) (hc k hkl hk)
  have c4 := fun (W : World) (hkl : j < l.length) (h : Lies W bl off L) (h2 : LiesOI W l[j].a l[j].p) => traceL_open a b c s bl off l[j].a cap l[j].k L l[j].p W h h2 (.inr ⟨Fl_fldR hF, .inr ⟨hF.z, s0, s1, .inr (.inr ⟨(hpl j hkl).2.1, (hpl j hkl).2.2, rfl⟩)⟩⟩) (ho hkl)
  have a0 : acR (VL.take 0) = (0, 1) := by rw [List.take_zero]; exact acR_nil
  have H := Lib.hid hL
  have H2 := Lib.hid hl
  have KEY := Lib.hid key
  have C3 := Lib.hid c3
  have C4 := Lib.hid c4
  have A0 := Lib.hid a0
  have HN := Lib.hid hVLn
  have HPL := Lib.hid hpl
  rw [← hVL]
  clear hL hl hF s0 s1 hv hc ho hok hpl hr hVg hVr key c3 c4 a0 hVL hVLn
  generalize al a b c L s [] = x at *
  go_enter Try.func32, Try.ntmps32
  go_wp2_with (fail)
  refine (c1 _ (H.out.later (by repeat (first | (with_reducible exact Below.refl _ _) | (with_reducible refine Below.setCell ?_ ?_ _) | (with_reducible refine Below.drew ?_) | (with_reducible refine Below.alloc ?_ ?_ _) | omega | (simp <;> omega))))).mono ?_
  rintro e w1 ⟨rfl, hw1⟩
  have hc1 := Tail.cells hw1
  have zw10 := Nat.lt_of_lt_of_le (n := w.heap.size) (by simp <;> omega) hw1.size; have zw11 := Nat.lt_of_lt_of_le (n := w.heap.size + 1) (by simp <;> omega) hw1.size
  have f1 : FW w1 w.heap.size a b c (.slice (some ⟨bl, off, none⟩) L.length cap) := FW.n2a.later hw1
  have r1 : RB w1 (w.heap.size + 1) (0, 0) := (⟨by simp [go_sem], by simp [go_sem], fun j => by simp [go_sem], by simp <;> omega⟩ : RB ((w.alloc (.cells #[.int .i64 a, .int .i64 b, .int .i64 c, .slice (some ⟨bl, off, none⟩) L.length cap] 47)).alloc (.cells #[.int .i64 0, .int .i64 0] 52)) (w.heap.size + 1) (0, 0)).later hw1
  have b1 : Below w.heap.size w w1 := by repeat (first | (with_reducible exact Below.refl _ _) | (with_reducible refine Below.setCell ?_ ?_ _) | (with_reducible refine Below.drew ?_) | (with_reducible refine Below.alloc ?_ ?_ _) | (with_reducible refine Below.trans ?_ (Below.mono hw1 ?_)) | (with_reducible exact hw1.size) | omega | (simp <;> omega) | (simp <;> (have s := hw1.size; omega)) | (have s0 := hw1.size; (try simp at s0); (try simp); omega))
  go_wp2_with (fail)
  refine (c2 _ (H2.out.later (by repeat (first | (with_reducible exact Below.refl _ _) | (with_reducible refine Below.setCell ?_ ?_ _) | (with_reducible refine Below.drew ?_) | (with_reducible refine Below.alloc ?_ ?_ _) | (with_reducible refine Below.trans ?_ (Below.mono hw1 ?_)) | (with_reducible exact hw1.size) | omega | (simp <;> omega) | (simp <;> (have s := hw1.size; omega)) | (have s0 := hw1.size; (try simp at s0); (try simp); omega))))).mono ?_
  rintro e w2 ⟨rfl, hw2⟩
  have f2 := Lib.hid ((f1.later ba1).later hw2)
  have r2 := Lib.hid ((r1.later ba1).later hw2)
  have b2 : Below w.heap.size w w2 := by repeat (first | (with_reducible exact Below.refl _ _) | (with_reducible refine Below.setCell ?_ ?_ _) | (with_reducible refine Below.drew ?_) | (with_reducible refine Below.alloc ?_ ?_ _) | (with_reducible refine Below.trans ?_ (Below.mono hw2 ?_)) | (with_reducible refine Below.trans ?_ (Below.mono b1 ?_)) | (with_reducible exact hw2.size) | (with_reducible exact b1.size) | omega | (simp <;> omega) | (simp <;> (have s := hw2.size; omega)) | (simp <;> (have s := b1.size; omega)) | (have s0 := hw2.size; (try simp at s0); have s1 := b1.size; (try simp at s1); (try simp); omega))
  clear hc1 hw1 zw10 zw11 f1 r1 b1 c1 c2 hw2
  have s2 := r2.out.lt
  go_wp2
  have b3 : Below w.heap.size w (w2.alloc (.cells #[.int .i64 0, .int .i64 1] 52)) := by repeat (first | (with_reducible exact Below.refl _ _) | (with_reducible refine Below.setCell ?_ ?_ _) | (with_reducible refine Below.drew ?_) | (with_reducible refine Below.alloc ?_ ?_ _) | (with_reducible refine Below.trans ?_ (Below.mono b2 ?_)) | (with_reducible exact b2.size) | omega | (simp <;> omega) | (simp <;> (have s := b2.size; omega)) | (have s0 := b2.size; (try simp at s0); (try simp); omega))
  have v3 : RB (w2.alloc (.cells #[.int .i64 0, .int .i64 1] 52)) w2.heap.size (0, 1) := ⟨by simp [go_sem], by simp [go_sem], fun j => by simp [go_sem], by simp <;> omega⟩
  have f3 := Lib.hid (f2.out.later (ba1 (o := .cells #[.int .i64 0, .int .i64 1] 52)))
  have r3 := Lib.hid (r2.out.later (ba1 (o := .cells #[.int .i64 0, .int .i64 1] 52)))
  clear b2 f2 r2
  generalize w2.alloc (.cells #[.int .i64 0, .int .i64 1] 52) = W3 at *
  generalize w2.heap.size = B at *
  go_loopw [13, 14, 15, 35] (fun _ _ _ q wr => ∃ k : Nat, k ≤ j ∧ q = .int .i64 k ∧ Hid (FW wr w.heap.size a b c (.slice (some ⟨bl, off, none⟩) L.length cap)) ∧ Hid (RB wr (w.heap.size + 1) (0, 0)) ∧ Hid (RB wr B (acR (VL.take k))) ∧ Below w.heap.size w wr) (fun _ _ _ q _ => l.length - (intOf q).toNat)
  case atStart => exact ⟨0, by omega, rfl, f3, r3, Lib.hid (by rw [A0.out]; exact v3), b3⟩
  case round =>
    obtain ⟨k, hk, rfl, hf, hr, hs, hb⟩ := hrel
    clear b3 v3 f3 r3
    have hbs := hb.size
    have hBl := hs.out.lt
    by_cases hlt : k < l.length
    · have i1 : (k : Int) < (l.length : Int) := by omega
      obtain ⟨pb, po, rfl, x0, x1, hpx⟩ := (H2.out.later hb).at_ hlt
      have HPX := Lib.hid hpx
      have xl := World.block_lt_of_cell? wr _ x0
      obtain ⟨f0, f1, f2, f3, ff, fl⟩ := hf.out
      by_cases hkj : k < j
      · have hk2 : k < VL.length := by have := HN.out; omega
        obtain ⟨r, hT, cL, cP⟩ := KEY.out k hkj hlt hk2
        have d3 := fun (W : World) (h : Lies W bl off L) (h2 : LiesOI W l[k].a l[k].p) => C3.out W k hlt hkj h h2
        rw [← hT.e] at d3
        obtain ⟨q0, q1, q2, q3, -, -, -⟩ := hT
        have m1 : IntKind.i64.wrap (l[k].c * r.1) = l[k].c * r.1 := IntWalk.i64_in _ (by omega)
        generalize l[k] = e at *
        obtain ⟨ec, ep, ea, ek⟩ := e
        simp only at x0 x1 d3 q2 q3 m1 cL HPX
        generalize hy' : acR (VL.take (k + 1)) = y' at *
        have HY := Lib.hid hy'
        clear hy' hpx
        generalize VL[k] = z at *
        generalize acR (VL.take k) = y at *
        obtain ⟨t1, t2⟩ := r
        simp only at q0 q1 q2 q3 m1 cL d3
        go_wp2_with (fail)
        refine (d3 _ (H.out.later (by repeat (first | (with_reducible exact Below.refl _ _) | (with_reducible refine Below.setCell ?_ ?_ _) | (with_reducible refine Below.drew ?_) | (with_reducible refine Below.alloc ?_ ?_ _) | (with_reducible refine Below.trans ?_ (Below.mono hb ?_)) | (with_reducible exact hb.size) | omega | (simp <;> omega) | (simp <;> (have s := hb.size; omega)) | (have s0 := hb.size; (try simp at s0); (try simp); omega)))) (HPX.out.later (by repeat (first | (with_reducible exact Below.refl _ _) | (with_reducible refine Below.setCell ?_ ?_ _) | (with_reducible refine Below.drew ?_) | (with_reducible refine Below.alloc ?_ ?_ _) | omega | (simp <;> omega))))).mono ?_
        rintro e w3 ⟨rfl, hw3⟩
        have hc3 := Tail.cells hw3
        
        have hf3 := (hf.out.later ba1).later hw3
        have hr3 := (hr.out.later ba1).later hw3
        have hs3 := (hs.out.later ba1).later hw3
        have b3 : Below w.heap.size w w3 := by repeat (first | (with_reducible exact Below.refl _ _) | (with_reducible refine Below.setCell ?_ ?_ _) | (with_reducible refine Below.drew ?_) | (with_reducible refine Below.alloc ?_ ?_ _) | (with_reducible refine Below.trans ?_ (Below.mono hw3 ?_)) | (with_reducible refine Below.trans ?_ (Below.mono hb ?_)) | (with_reducible exact hw3.size) | (with_reducible exact hb.size) | omega | (simp <;> omega) | (simp <;> (have s := hw3.size; omega)) | (simp <;> (have s := hb.size; omega)) | (have s0 := hw3.size; (try simp at s0); have s1 := hb.size; (try simp at s1); (try simp); omega))
        have k0 : w3.cell? ⟨wr.heap.size, 0, none⟩ = some (.int .i64 ec) := (hc3.1 _ _ (by simp)).trans (by simp [go_sem])
        have k1 : wr.heap.size < w3.heap.size := by have := hw3.size; simp at this; omega
        clear hc3 x0 x1 f0 f1 f2 f3 ff fl hf hr hs d3
        have kc := @Tail.cell_re
        obtain ⟨g0, g1, gf, gl⟩ := hs3
        have g3 : RB w3 B y := ⟨g0, g1, gf, gl⟩
        go_wp2
        refine Tail.region_tail_below 10 (by kernel_rfl) (by kernel_rfl) ?_
        simp only [List.take_succ_cons, List.take_zero, List.drop_succ_cons, List.drop_zero]
        repeat (go_big_quiet_step (first | (with_reducible exact Calls.regrown_of (cL _)) | (with_reducible exact Calls.regrown_of (cP _))))
        refine wpQuiet_nil ?_
        intro w4 hw4
        have hf4 := (hf3.later ba1).later hw4
        have hr4 := (hr3.later ba1).later hw4
        have hs4 := (g3.later ba1).later hw4
        have b4 : Below w.heap.size w w4 := by repeat (first | (with_reducible exact Below.refl _ _) | (with_reducible refine Below.setCell ?_ ?_ _) | (with_reducible refine Below.drew ?_) | (with_reducible refine Below.alloc ?_ ?_ _) | (with_reducible refine Below.trans ?_ (Below.mono hw4 ?_)) | (with_reducible refine Below.trans ?_ (Below.mono b3 ?_)) | (with_reducible exact hw4.size) | (with_reducible exact b3.size) | omega | (simp <;> omega) | (simp <;> (have s := hw4.size; omega)) | (simp <;> (have s := b3.size; omega)) | (have s0 := hw4.size; (try simp at s0); have s1 := b3.size; (try simp at s1); (try simp); omega))
        clear hf3 hr3 g3 g0 g1 gf gl k0 hw4 kc cL cP
        obtain ⟨g0, g1, gf, gl⟩ := hs4
        have g4 : RB w4 B y := ⟨g0, g1, gf, gl⟩
        go_wp2
        have hf5 := Lib.hid ((hf4.grown (grown_setCell w4 ⟨B, 0, none⟩ (.int .i64 y'.1)) (by simp; omega)).grown (grown_setCell _ ⟨B, 1, none⟩ (.int .i64 y'.2)) (by simp; omega))
        have hr5 := Lib.hid (hr4.aside (g := B) (by omega) (.int .i64 y'.1) (.int .i64 y'.2))
        have hs5 := g4.put y'
        rw [← HY.out] at hs5
        have hs5 := Lib.hid hs5
        exact ⟨⟨k + 1, by omega, by go_num, hf5, hr5, by rw [HY.out] at hs5 ⊢; exact hs5, by repeat (first | (with_reducible exact Below.refl _ _) | (with_reducible refine Below.setCell ?_ ?_ _) | (with_reducible refine Below.drew ?_) | (with_reducible refine Below.alloc ?_ ?_ _) | (with_reducible refine Below.trans ?_ (Below.mono b4 ?_)) | (with_reducible exact b4.size) | omega | (simp <;> omega) | (simp <;> (have s := b4.size; omega)) | (have s0 := b4.size; (try simp at s0); (try simp); omega))⟩, by simp [intOf]; omega⟩
      · obtain rfl : k = j := by omega
        have d4 := fun (W : World) (h : Lies W bl off L) (h2 : LiesOI W l[k].a l[k].p) => C4.out W hlt h h2
        have hne : k ≠ l.length := by omega
        unfold z2 at d4
        generalize l[k] = e at *
        obtain ⟨ec, ep, ea, ek⟩ := e
        simp only at x0 x1 d4 HPX
        clear hpx
        obtain ⟨g0, g1, gf, gl⟩ := hr.out
        go_wp2_with (fail)
        refine (d4 _ (H.out.later (by repeat (first | (with_reducible exact Below.refl _ _) | (with_reducible refine Below.setCell ?_ ?_ _) | (with_reducible refine Below.drew ?_) | (with_reducible refine Below.alloc ?_ ?_ _) | (with_reducible refine Below.trans ?_ (Below.mono hb ?_)) | (with_reducible exact hb.size) | omega | (simp <;> omega) | (simp <;> (have s := hb.size; omega)) | (have s0 := hb.size; (try simp at s0); (try simp); omega)))) (HPX.out.later (by repeat (first | (with_reducible exact Below.refl _ _) | (with_reducible refine Below.setCell ?_ ?_ _) | (with_reducible refine Below.drew ?_) | (with_reducible refine Below.alloc ?_ ?_ _) | omega | (simp <;> omega))))).mono ?_
        rintro e w3 ⟨rfl, hw3⟩
        obtain ⟨g0', g1', gf', gl'⟩ := (hr.out.later ba1).later hw3
        go_wp2
        refine bodyPost_ret (v := .tuple #[z2, .int .i64 6]) ?_ rfl ⟨by unfold valV; rw [if_neg hne], ?_⟩
        · simp [results, Try.results32, go_sem, g0', g1', gl', z2]
        · repeat (first | (with_reducible exact Below.refl _ _) | (with_reducible refine Below.setCell ?_ ?_ _) | (with_reducible refine Below.drew ?_) | (with_reducible refine Below.alloc ?_ ?_ _) | (with_reducible refine Below.trans ?_ (Below.mono hw3 ?_)) | (with_reducible refine Below.trans ?_ (Below.mono hb ?_)) | (with_reducible exact hw3.size) | (with_reducible exact hb.size) | omega | (simp <;> omega) | (simp <;> (have s := hw3.size; omega)) | (simp <;> (have s := hb.size; omega)) | (have s0 := hw3.size; (try simp at s0); have s1 := hb.size; (try simp at s1); (try simp); omega))
    · obtain rfl : k = l.length := by omega
      obtain rfl : j = l.length := by omega
      have e : VL.take l.length = VL := List.take_of_length_le (by rw [HN.out]; exact Nat.le_refl _)
      rw [e] at hs
      obtain ⟨g0, g1, gf, gl⟩ := hs.out
      obtain ⟨q0, q1, qf, ql⟩ := hr.out
      clear e
      go_wp2
      refine bodyPost_ret (v := .tuple #[.agg #[.int .i64 ((acR VL)).1, .int .i64 ((acR VL)).2], .int .i64 0]) ?_ rfl ⟨by unfold valV; rw [if_pos rfl], ?_⟩
      · simp [results, Try.results32, go_sem, q0, q1, ql]
      · repeat (first | (with_reducible exact Below.refl _ _) | (with_reducible refine Below.setCell ?_ ?_ _) | (with_reducible refine Below.drew ?_) | (with_reducible refine Below.alloc ?_ ?_ _) | (with_reducible refine Below.trans ?_ (Below.mono hb ?_)) | (with_reducible exact hb.size) | omega | (simp <;> omega) | (simp <;> (have s := hb.size; omega)) | (have s0 := hb.size; (try simp at s0); (try simp); omega))
end Go.Proofs.Ytjidbajcnomceaa
