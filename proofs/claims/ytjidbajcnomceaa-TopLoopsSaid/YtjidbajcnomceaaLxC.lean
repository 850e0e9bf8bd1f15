/- Traces and values, whatever comes in: what is answered, and when without an error.
Conditions: those written at each theorem. -/
import Derived.Test.YtjidbajcnomceaaLvC
import Derived.Test.YtjidbajcnomceaaLuM
import Derived.Test.YtjidbajcnomceaaLooC
namespace Go.Proofs.Ytjidbajcnomceaa
set_option linter.unusedVariables false
set_option linter.unusedSimpArgs false
set_option maxRecDepth 1000000
open Go.RowKit
open Um Tm Lm

theorem asR_zero {a b c s r : Int} {L : List Q} {l : List Int} (h : asR a b c L s l r) (hF : Fl a b c L) (s0 : 0 ≤ s) (s1 : s < a * b * c) (hs : ∀ t ∈ l, IsStep t) (h8 : l.length ≤ 8) : r = 0 := by
  rcases h with ⟨hf, hne⟩ | ⟨-, hw⟩
  · rcases hf with ⟨h, -⟩ | ⟨-, h, -⟩ | ⟨-, -, h⟩
    · exact absurd hF.z h
    · exact absurd hF.n h
    · rcases h with ⟨-, h⟩ | ⟨k, x, hx, hl, -, -⟩
      · exact h
      · obtain ⟨hV, h5⟩ := hF.v k x hx
        rcases hl with ⟨h, -⟩ | ⟨-, h, -⟩ | ⟨-, -, h⟩
        · exact absurd hV h
        · omega
        · exact h
  · rcases hw with ⟨hst, hne⟩ | ⟨-, -, -, hp⟩
    · rcases hst with ⟨h, -⟩ | ⟨-, h, -⟩ | ⟨-, -, -, h⟩
      · exact absurd hF.z h
      · exact absurd ⟨s0, s1⟩ h
      · exact h
    · rcases hp with ⟨h, -⟩ | ⟨-, ⟨t, ht, h⟩, -⟩ | ⟨-, -, h⟩
      · omega
      · exact absurd (hs t ht) h
      · exact h
/-- a trace is answered -/
structure TrN (a b c s : Int) (fo : Option Addr) (cap : Nat) (L : List Q) (l : List Int) (x y r : Int) : Prop where
  ex : ∀ (W : World) (ao : Option Addr) (pc : Nat), LiesO W fo L → LiesOI W ao l → Calls Try.prog 31 #[.agg #[.int .i64 a, .int .i64 b, .int .i64 c, .slice fo L.length cap], .int .i64 s, .slice ao l.length pc] W fun e w' => e = .returned (.tuple #[.agg #[.int .i64 x, .int .i64 y], .int .i64 r]) ∧ Below W.heap.size W w'
  ok : r = 0 → Fl a b c L ∧ 0 ≤ s ∧ s < a * b * c ∧ (∀ t ∈ l, IsStep t) ∧ l.length ≤ 8 ∧ en a b c s l = s ∧ (x, y) = tr (al a b c L s l)
  un : Fl a b c L → 0 ≤ s → s < a * b * c → (∀ t ∈ l, IsStep t) → l.length ≤ 8 → en a b c s l = s → r = 0
theorem lo_get {bl off : Nat} {L : List Q} (hne : L ≠ []) {W : World} (h : LiesO W (some ⟨bl, off, none⟩) L) : Lies W bl off L := by
  rcases h with h | ⟨b1, o1, e, h⟩
  · exact absurd h hne
  · simp at e
    obtain ⟨rfl, rfl⟩ := e
    exact h
theorem fl_ne {a b c : Int} {L : List Q} (hF : Fl a b c L) : L ≠ [] := by
  rintro rfl
  have h3 := hF.n
  obtain ⟨-, -, p3, -⟩ := mul_rng hF.z.a1 hF.z.a4 hF.z.b1 hF.z.b4 hF.z.c1 hF.z.c4
  simp at h3; omega
theorem trace_N (a b c s : Int) (fo : Option Addr) (cap : Nat) (L : List Q) (l : List Int) (w : World) (hL : LiesO w fo L) (hlen : L.length ≤ 1000000) (hl : l.length ≤ 1000000) : ∃ x y r, TrN a b c s fo cap L l x y r := by
  obtain ⟨r, hr⟩ := asR_ex a b c L s l
  by_cases h0 : r = 0
  · subst h0
    obtain ⟨hF, s0, s1, hs, h8⟩ := asR_ok hr
    obtain ⟨bl, off, rfl, -⟩ := fld_some (Fl_fldR hF) hL
    have hne := fl_ne hF
    by_cases hc : en a b c s l = s
    · exact ⟨_, _, 0, fun W ao pc h1 h2 => traceL_ok a b c s bl off ao cap pc L l W (lo_get hne h1) h2 hr hc, fun _ => ⟨hF, s0, s1, hs, h8, hc, rfl⟩, fun _ _ _ _ _ _ => rfl⟩
    · exact ⟨0, 0, 6, fun W ao pc h1 h2 => traceL_open a b c s bl off ao cap pc L l W (lo_get hne h1) h2 hr hc, fun h => by omega, fun _ _ _ _ _ h => absurd h hc⟩
  · exact ⟨0, 0, r, fun W ao pc h1 h2 => traceL_bad a b c s r fo ao cap pc L l W h1 h2 hr h0 hlen hl, fun h => absurd h h0, fun hF s0 s1 hs h8 _ => asR_zero hr hF s0 s1 hs h8⟩
/-- a value is answered -/
structure VaN (a b c s : Int) (fo : Option Addr) (cap : Nat) (L : List Q) (N : List Trm) (x y r : Int) : Prop where
  ex : ∀ (l : List E) (W : World) (lo : Option Addr) (lc : Nat), tm l = N → LiesO W fo L → Trs W lo l → Calls Try.prog 32 #[.agg #[.int .i64 a, .int .i64 b, .int .i64 c, .slice fo L.length cap], .int .i64 s, .slice lo l.length lc] W fun e w' => e = .returned (.tuple #[.agg #[.int .i64 x, .int .i64 y], .int .i64 r]) ∧ Below W.heap.size W w'
  ok : r = 0 → Fl a b c L ∧ 0 ≤ s ∧ s < a * b * c ∧ Val a b c s N ∧ (x, y) = valR a b c L s N
  un : Fl a b c L → 0 ≤ s → s < a * b * c → Val a b c s N → r = 0
theorem first_openN (P : Nat → Prop) (n : Nat) : ∃ j, j ≤ n ∧ (∀ i, i < j → P i) ∧ (j < n → ¬ P j) := by
  induction n with
  | zero => exact ⟨0, by omega, fun i h => by omega, fun h => by omega⟩
  | succ n ih =>
    obtain ⟨j, h1, h2, h3⟩ := ih
    by_cases hj : j < n
    · exact ⟨j, by omega, h2, fun _ => h3 hj⟩
    · obtain rfl : j = n := by omega
      by_cases hp : P j
      · exact ⟨j + 1, by omega, fun i h => by
          by_cases e : i = j
          · rw [e]; exact hp
          · exact h2 i (by omega), fun h => by omega⟩
      · exact ⟨j, by omega, h2, fun _ => hp⟩
theorem val_vT {a b c s : Int} {N : List Trm} (h : Val a b c s N) : vT N = 0 := by
  have key : ∀ N : List Trm, (∀ t ∈ N, okC t.1 ∧ (∀ x ∈ t.2, IsStep x) ∧ t.2.length ≤ 8) → tes N = 0 := fun N => by
    induction N with
    | nil => intro _; rfl
    | cons t r ih =>
      intro hN
      obtain ⟨h1, h2, h3⟩ := hN t (by simp)
      have e : te t = 0 := by unfold te; rw [if_pos h1]; exact pe_zero h3 h2
      simp only [tes]
      rw [if_pos e]
      exact ih fun u hu => hN u (by simp [hu])
  unfold vT
  rw [if_neg (by have := h.n; omega)]
  exact key N fun t ht => ⟨h.co t ht, h.st t ht⟩
theorem value_N (a b c s : Int) (fo : Option Addr) (cap : Nat) (L : List Q) (N : List Trm) (w : World) (hL : LiesO w fo L) (hlen : L.length ≤ 1000000) (hN : N.length ≤ 1000000) (hp : ∀ t ∈ N, t.2.length ≤ 1000000) : ∃ x y r, VaN a b c s fo cap L N x y r := by
  obtain ⟨r, hr⟩ := asR_ex a b c L s []
  have big : ∀ l : List E, tm l = N → l.length ≤ 1000000 ∧ ∀ e ∈ l, e.p.length ≤ 1000000 := fun l e => by
    subst e
    rw [tm_len] at hN
    exact ⟨hN, fun e he => hp (e.c, e.p) (List.mem_map.2 ⟨e, he, rfl⟩)⟩
  by_cases h0 : r = 0
  · subst h0
    obtain ⟨hF, s0, s1, -, -⟩ := asR_ok hr
    obtain ⟨bl, off, rfl, -⟩ := fld_some (Fl_fldR hF) hL
    have hne := fl_ne hF
    by_cases hv : vT N = 0
    · obtain ⟨j, hj, j1, j2⟩ := first_openN (fun i => ∀ (h : i < N.length), en a b c s N[i].2 = s) N.length
      by_cases e : j = N.length
      · have hok := vT_ok hv
        have hV : Val a b c s N := by
          refine ⟨fun t ht => ⟨(hok.2 t ht).2.2, (hok.2 t ht).2.1⟩, fun t ht => ?_, fun t ht => (hok.2 t ht).1, hok.1⟩
          obtain ⟨i, hi, rfl⟩ := List.getElem_of_mem ht
          exact j1 i (by omega) hi
        refine ⟨_, _, 0, fun l W lo lc hl h1 h2 => ?_, fun _ => ⟨hF, s0, s1, hV, rfl⟩, fun _ _ _ _ => rfl⟩
        subst hl
        have hn := tm_len l
        have := value3_any a b c s bl off lo cap lc L l l.length W (lo_get hne h1) h2 hF s0 s1 hv (Nat.le_refl _) (fun i h _ => by
          have := j1 i (by omega) (by omega)
          simpa [tm] using this) (fun h => by omega)
        unfold valV at this
        rw [if_pos rfl, List.take_of_length_le (by omega), (valR_ac hF s0 s1 hV).1] at this
        exact this
      · refine ⟨0, 0, 6, fun l W lo lc hl h1 h2 => ?_, fun h => by omega, fun _ _ _ h => ?_⟩
        · subst hl
          have hn := tm_len l
          have := value3_any a b c s bl off lo cap lc L l j W (lo_get hne h1) h2 hF s0 s1 hv (by omega) (fun i h hi => by
            have := j1 i hi (by omega)
            simpa [tm] using this) (fun h he => by
            refine j2 (by omega) fun h' => ?_
            simpa [tm] using he)
          unfold valV at this
          rw [if_neg (by omega)] at this
          exact this
        · exact absurd (fun h' => h.cl _ (List.getElem_mem h')) (j2 (by omega))
    · refine ⟨0, 0, vT N, fun l W lo lc hl h1 h2 => ?_, fun h => absurd h hv, fun _ _ _ h => val_vT h⟩
      have hb := big l hl
      subst hl
      exact value3_terms a b c s bl off lo cap lc L l W (lo_get hne h1) h2 hr hv hb.1 hb.2
  · refine ⟨0, 0, r, fun l W lo lc hl h1 h2 => ?_, fun h => absurd h h0, fun hF s0 s1 _ => ?_⟩
    · exact value3_bad a b c s r fo lo cap lc L l W h1 h2 hr h0 hlen
    · exact asR_zero hr hF s0 s1 (by simp) (by simp)
/-- the plain form of a sum has its value -/
theorem val_plain {a b c s : Int} {L : List Q} (hF : Fl a b c L) (s0 : 0 ≤ s) (s1 : s < a * b * c) {R N : List Trm} (h : Raw a b c s R) (hN : N = plT (plo R)) (hv : vT N = 0) : Val a b c s N ∧ SK (Tp a b c L s) N = SK (Tp a b c L s) R := by
  have hok := vT_ok hv
  exact h.plain hF s0 s1 hN (fun t ht => ⟨(hok.2 t ht).2.2, (hok.2 t ht).2.1⟩) (fun t ht => (hok.2 t ht).1) hok.1
theorem valR_eq {a b c s : Int} {L : List Q} {R N : List Trm} (h : SK (Tp a b c L s) N = SK (Tp a b c L s) R) : valR a b c L s N = valR a b c L s R := by unfold valR; rw [h]
end Go.Proofs.Ytjidbajcnomceaa
