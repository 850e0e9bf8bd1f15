/- Powers, as the document's answers make them.
Conditions: those written at each theorem. -/
import Derived.Test.YtecoemdpfpdeoaaPower
namespace Go.Proofs.Ytecoemdpfpdeoaa
set_option linter.unusedVariables false
set_option linter.unusedSimpArgs false
open Go.RowKit
open Um

theorem owned_ne {w : World} {base : Nat} {T : TypeId} {size n b : Nat} {v : Value} {xs : List Value} (h : w.ownsRow base T size v n xs) (hb : b < base) : some b ≠ v.ownBlock := by
  rcases h.2 with ⟨rfl, _⟩ | ⟨g, cap, cur, rfl, hg, _⟩
  · simp [Value.ownBlock]
  · simp [Value.ownBlock]; omega
theorem owned_from {w : World} {base : Nat} {T : TypeId} {size n : Nat} {v : Value} {xs : List Value} (h : w.ownsRow base T size v n xs) : ∀ k, v.ownBlock = some k → base ≤ k := by
  rcases h.2 with ⟨rfl, _⟩ | ⟨g, cap, cur, rfl, hg, _⟩
  · simp [Value.ownBlock]
  · intro k hk; simp [Value.ownBlock] at hk; omega
theorem owned_liesO {w : World} {base : Nat} {T : TypeId} {v : Value} {L : List Q} (h : w.ownsRow base T 5 v L.length (L.flatMap uc)) : ∃ ao cap, v = .slice ao L.length cap ∧ LiesO w ao L := by
  rcases h.2 with ⟨rfl, h0⟩ | ⟨g, cap, cur, rfl, hg, _⟩
  · exact ⟨none, 0, by rw [h0], .inl (List.length_eq_zero_iff.1 h0)⟩
  · exact ⟨_, cap, rfl, .inr ⟨g, 0, rfl, owned_lies h⟩⟩

theorem wth_yes (n : Int) (w : World) (h1 : -1000 ≤ n) (h2 : n ≤ 1000) : Calls Try.prog 61 #[.int .i64 n, .int .i64 (-1000), .int .i64 1000] w fun e w' => e = .returned (.bool true) ∧ w = w' := by
  have := within_any n (-1000) 1000 w
  rwa [inB_yes h1 h2] at this
theorem wth_no (n : Int) (w : World) (h : ¬ (-1000 ≤ n ∧ n ≤ 1000)) : Calls Try.prog 61 #[.int .i64 n, .int .i64 (-1000), .int .i64 1000] w fun e w' => e = .returned (.bool false) ∧ w = w' := by
  have h3 : inB n (-1000) 1000 = false := by
    cases hb : inB n (-1000) 1000
    · rfl
    · exact absurd (inB_iff.1 hb) h
  have := within_any n (-1000) 1000 w
  rwa [h3] at this

set_option maxHeartbeats 800000 in
theorem refPower_bad (x : Q) (n : Int) (w : World) (h : ¬ V x) : Calls Try.prog 31 #[.agg #[.int .i64 x.a, .int .i64 x.b, .int .i64 x.c, .int .i64 x.d, .int .i64 x.n], .int .i64 n] w fun e w' => e = .returned (.tuple #[.agg #[.int .i64 zero.a, .int .i64 zero.b, .int .i64 zero.c, .int .i64 zero.d, .int .i64 zero.n], .int .i64 1]) ∧ Below w.heap.size w w' := by
  have c1 := fun W : World => refValidate_any x W 1 (.inr ⟨h, rfl⟩)
  clear h
  go_enter Try.func31, Try.ntmps31
  go_wp2_with ((with_reducible refine (c1 _).mono ?_); rintro e w1 ⟨rfl, hw1⟩; have hc := Tail.cells hw1; have zw10 := Nat.lt_of_lt_of_le (n := w.heap.size) (by simp <;> omega) hw1.size; have zw11 := Nat.lt_of_lt_of_le (n := w.heap.size + 1) (by simp <;> omega) hw1.size)
  refine bodyPost_ret (v := .tuple #[.agg #[.int .i64 zero.a, .int .i64 zero.b, .int .i64 zero.c, .int .i64 zero.d, .int .i64 zero.n], .int .i64 1]) ?_ rfl ⟨rfl, ?_⟩
  · simp [results, Try.results31, go_sem, hc, zw10, zw11, zero]
  · repeat (first | (with_reducible exact Below.refl _ _) | (with_reducible refine Below.setCell ?_ ?_ _) | (with_reducible refine Below.drew ?_) | (with_reducible refine Below.alloc ?_ ?_ _) | (with_reducible refine Below.trans ?_ (Below.mono hw1 ?_)) | (with_reducible exact hw1.size) | omega | (simp <;> omega) | (simp <;> (have s := hw1.size; omega)) | (have s0 := hw1.size; (try simp at s0); (try simp); omega))

set_option maxHeartbeats 800000 in
theorem refPower_far (x : Q) (n : Int) (w : World) (h : V x) (hn : ¬ (-1000 ≤ n ∧ n ≤ 1000)) : Calls Try.prog 31 #[.agg #[.int .i64 x.a, .int .i64 x.b, .int .i64 x.c, .int .i64 x.d, .int .i64 x.n], .int .i64 n] w fun e w' => e = .returned (.tuple #[.agg #[.int .i64 zero.a, .int .i64 zero.b, .int .i64 zero.c, .int .i64 zero.d, .int .i64 zero.n], .int .i64 1]) ∧ Below w.heap.size w w' := by
  have c1 := fun W : World => refValidate_any x W 0 (.inl ⟨h, rfl⟩)
  have c4 := fun W : World => wth_no n W hn
  clear h hn
  go_enter Try.func31, Try.ntmps31
  go_wp2_with (first | ((with_reducible refine (c1 _).mono ?_); rintro e w1 ⟨rfl, hw1⟩; have hc := Tail.cells hw1; have zw10 := Nat.lt_of_lt_of_le (n := w.heap.size) (by simp <;> omega) hw1.size; have zw11 := Nat.lt_of_lt_of_le (n := w.heap.size + 1) (by simp <;> omega) hw1.size) | ((with_reducible refine (c4 _).mono ?_); rintro e w2 ⟨rfl, rfl⟩))
  refine bodyPost_ret (v := .tuple #[.agg #[.int .i64 zero.a, .int .i64 zero.b, .int .i64 zero.c, .int .i64 zero.d, .int .i64 zero.n], .int .i64 1]) ?_ rfl ⟨rfl, ?_⟩
  · simp [results, Try.results31, go_sem, hc, zw10, zw11, zero]
  · repeat (first | (with_reducible exact Below.refl _ _) | (with_reducible refine Below.setCell ?_ ?_ _) | (with_reducible refine Below.drew ?_) | (with_reducible refine Below.alloc ?_ ?_ _) | (with_reducible refine Below.trans ?_ (Below.mono hw1 ?_)) | (with_reducible exact hw1.size) | omega | (simp <;> omega) | (simp <;> (have s := hw1.size; omega)) | (have s0 := hw1.size; (try simp at s0); (try simp); omega))

theorem rep_step (m left : Nat) (y : Q) (h : 0 < left) (hl : left ≤ m) : (List.replicate (m - (left - 1)) y).flatMap uc = (List.replicate (m - left) y).flatMap uc ++ uc y := by
  have e : m - (left - 1) = m - left + 1 := by omega
  rw [e, List.replicate_succ', List.flatMap_append]
  simp

set_option maxRecDepth 100000 in
set_option maxHeartbeats 3200000 in
theorem refPower_neg (x r : Q) (n er : Int) (w : World) (h : V x) (h1 : -1000 ≤ n) (h2 : n < 0) (hr : prodFrom one (List.replicate n.natAbs (bar x)) = (r, er)) : Calls Try.prog 31 #[.agg #[.int .i64 x.a, .int .i64 x.b, .int .i64 x.c, .int .i64 x.d, .int .i64 x.n], .int .i64 n] w fun e w' => e = .returned (.tuple #[.agg #[.int .i64 r.a, .int .i64 r.b, .int .i64 r.c, .int .i64 r.d, .int .i64 r.n], .int .i64 er]) ∧ Below w.heap.size w w' := by
  have c1 := fun W : World => refValidate_any x W 0 (.inl ⟨h, rfl⟩)
  have ix := V.in h
  have c3 := fun W : World => back_any x W (by have := ix.b; omega) (by have := ix.c; omega) (by have := ix.d; omega)
  have c4 := fun W : World => wth_yes n W h1 (by omega)
  have hV := h.bar
  obtain ⟨i0, hi, hz0, hz1, hz2⟩ := info_parts infoU
  clear h ix
  generalize bar x = y at *
  have HR := Lib.hid hr
  clear hr
  have e1 : (-n : Int) = (n.natAbs : Int) := by omega
  go_enter Try.func31, Try.ntmps31
  go_wp2_with (first | ((with_reducible refine (c1 _).mono ?_); rintro e w1 ⟨rfl, hw1⟩; have hc1 := Tail.cells hw1; have zw10 := Nat.lt_of_lt_of_le (n := w.heap.size) (by simp <;> omega) hw1.size; have zw11 := Nat.lt_of_lt_of_le (n := w.heap.size + 1) (by simp <;> omega) hw1.size) | ((with_reducible refine (c4 _).mono ?_); rintro e w2 ⟨rfl, rfl⟩) | ((with_reducible refine (c3 _).mono ?_); rintro e w3 ⟨rfl, hw3⟩; have hc3 := Tail.cells hw3; have z30 := Nat.lt_of_lt_of_le zw10 hw3.size; have z31 := Nat.lt_of_lt_of_le zw11 hw3.size))
  obtain ⟨b0, b1, b2, b3, b4, bfz, bl⟩ := (((⟨by simp [go_sem], by simp [go_sem], by simp [go_sem], by simp [go_sem], by simp [go_sem], fun j => by simp [go_sem], by simp⟩ : UBox (w.alloc (.cells #[.int .i64 x.a, .int .i64 x.b, .int .i64 x.c, .int .i64 x.d, .int .i64 x.n] 23)) w.heap.size x).later ((Below.refl _ _).alloc (Nat.le_refl _) _)).later hw1).later hw3
  have bR0 := (((⟨by simp [go_sem, zero], by simp [go_sem, zero], by simp [go_sem, zero], by simp [go_sem, zero], by simp [go_sem, zero], fun j => by simp [go_sem], by simp⟩ : UBox ((w.alloc (.cells #[.int .i64 x.a, .int .i64 x.b, .int .i64 x.c, .int .i64 x.d, .int .i64 x.n] 23)).alloc (.cells #[.int .i64 0, .int .i64 0, .int .i64 0, .int .i64 0, .int .i64 0] 23)) (w.heap.size + 1) zero).later hw1).later hw3)
  have ne2 : ¬ w.heap.size + 1 = w.heap.size := by omega
  have bR := ((((bR0.other (p := ⟨w.heap.size, 0, none⟩) (v := .int .i64 y.a) ne2).other (p := ⟨w.heap.size, 1, none⟩) (v := .int .i64 y.b) ne2).other (p := ⟨w.heap.size, 2, none⟩) (v := .int .i64 y.c) ne2).other (p := ⟨w.heap.size, 3, none⟩) (v := .int .i64 y.d) ne2).other (p := ⟨w.heap.size, 4, none⟩) (v := .int .i64 y.n) ne2
  have bY : UBox (((((w3.setCell ⟨w.heap.size, 0, none⟩ (.int .i64 y.a)).setCell ⟨w.heap.size, 1, none⟩ (.int .i64 y.b)).setCell ⟨w.heap.size, 2, none⟩ (.int .i64 y.c)).setCell ⟨w.heap.size, 3, none⟩ (.int .i64 y.d)).setCell ⟨w.heap.size, 4, none⟩ (.int .i64 y.n)) w.heap.size y := ⟨by simp [go_sem, b0], by simp [go_sem, b1], by simp [go_sem, b2], by simp [go_sem, b3], by simp [go_sem, b4], fun j => by simp [bfz], by simp [World.setCell]; exact bl⟩
  have hB : Below w.heap.size w (((((w3.setCell ⟨w.heap.size, 0, none⟩ (.int .i64 y.a)).setCell ⟨w.heap.size, 1, none⟩ (.int .i64 y.b)).setCell ⟨w.heap.size, 2, none⟩ (.int .i64 y.c)).setCell ⟨w.heap.size, 3, none⟩ (.int .i64 y.d)).setCell ⟨w.heap.size, 4, none⟩ (.int .i64 y.n)) := by repeat (first | (with_reducible exact Below.refl _ _) | (with_reducible refine Below.setCell ?_ ?_ _) | (with_reducible refine Below.drew ?_) | (with_reducible refine Below.alloc ?_ ?_ _) | (with_reducible refine Below.trans ?_ (Below.mono hw3 ?_)) | (with_reducible refine Below.trans ?_ (Below.mono hw1 ?_)) | (with_reducible exact hw3.size) | (with_reducible exact hw1.size) | omega | (simp <;> omega) | (simp <;> (have s := hw3.size; omega)) | (simp <;> (have s := hw1.size; omega)) | (have s0 := hw3.size; (try simp at s0); have s1 := hw1.size; (try simp at s1); (try simp); omega))
  have bR' : UBox (((((w3.setCell ⟨w.heap.size, 0, none⟩ (.int .i64 y.a)).setCell ⟨w.heap.size, 1, none⟩ (.int .i64 y.b)).setCell ⟨w.heap.size, 2, none⟩ (.int .i64 y.c)).setCell ⟨w.heap.size, 3, none⟩ (.int .i64 y.d)).setCell ⟨w.heap.size, 4, none⟩ (.int .i64 y.n)) (w.heap.size + 1) zero := bR
  clear bR bR0 b0 b1 b2 b3 b4 bfz bl hw1 hw3 hc1 hc3 c1 c3 c4 zw10 zw11 z30 z31
  have bR := bR'
  clear bR'
  generalize (((((w3.setCell ⟨w.heap.size, 0, none⟩ (.int .i64 y.a)).setCell ⟨w.heap.size, 1, none⟩ (.int .i64 y.b)).setCell ⟨w.heap.size, 2, none⟩ (.int .i64 y.c)).setCell ⟨w.heap.size, 3, none⟩ (.int .i64 y.d)).setCell ⟨w.heap.size, 4, none⟩ (.int .i64 y.n)) = W0 at *
  go_loopw [1, 7] (fun nn vv wr => ∃ (left : Nat) (v : Value), left ≤ n.natAbs ∧ nn = .int .i64 left ∧ v = vv ∧ Hid (wr.ownsRow (w.heap.size + 2) 23 5 v (n.natAbs - left) ((List.replicate (n.natAbs - left) y).flatMap uc)) ∧ UBox wr w.heap.size y ∧ UBox wr (w.heap.size + 1) zero ∧ Below w.heap.size w wr) (fun nn _ _ => (intOf nn).toNat)
  case atStart => exact ⟨n.natAbs, _, Nat.le_refl _, rfl, rfl, Lib.hid (by rw [Nat.sub_self]; exact World.ownsRow_nil _ _ _ _), bY, bR, hB⟩
  case round =>
    obtain ⟨left, v, hle, rfl, rfl, hown, hy, hbr, hb⟩ := hrel
    clear bY bR hB
    have hbs := hb.size
    have hlt := hbr.lt
    by_cases hl0 : left = 0
    · subst hl0
      have hown' : wr.ownsRow (w.heap.size + 2) 23 5 v (List.replicate n.natAbs y).length ((List.replicate n.natAbs y).flatMap uc) := by
        have := hown.out
        rw [Nat.sub_zero] at this
        rw [List.length_replicate]
        exact this
      obtain ⟨ao, cap, hv, hlies⟩ := owned_liesO hown'
      obtain ⟨r', er', -, k2, k3⟩ := products ao cap (List.replicate n.natAbs y) (by simp; omega)
      have he := HR.out.symm.trans (k3 (fun q hq => by rw [List.eq_of_mem_replicate hq]; exact hV))
      simp only [Prod.mk.injEq] at he
      obtain ⟨rfl, rfl⟩ := he
      rw [List.length_replicate] at hv k2
      subst hv
      have c9 := k2 wr hlies
      have HBR := Lib.hid hbr
      clear hown hown' k2 k3 hlies hy hbr
      go_wp2_with ((with_reducible refine c9.mono ?_); rintro e w4 ⟨rfl, hw4⟩; obtain ⟨d0, d1, d2, d3, d4, df, dl⟩ := HBR.out.later hw4)
      refine bodyPost_ret (v := .tuple #[.agg #[.int .i64 r.a, .int .i64 r.b, .int .i64 r.c, .int .i64 r.d, .int .i64 r.n], .int .i64 er]) ?_ rfl ⟨rfl, ?_⟩
      · simp [results, Try.results31, go_sem, d0, d1, d2, d3, d4]
      · repeat (first | (with_reducible exact Below.refl _ _) | (with_reducible refine Below.setCell ?_ ?_ _) | (with_reducible refine Below.drew ?_) | (with_reducible refine Below.alloc ?_ ?_ _) | (with_reducible refine Below.trans ?_ (Below.mono hw4 ?_)) | (with_reducible refine Below.trans ?_ (Below.mono hb ?_)) | (with_reducible exact hw4.size) | (with_reducible exact hb.size) | omega | (simp <;> omega) | (simp <;> (have s := hw4.size; omega)) | (simp <;> (have s := hb.size; omega)) | (have s0 := hw4.size; (try simp at s0); have s1 := hb.size; (try simp at s1); (try simp); omega))
    · have hl1 : (0 : Int) < (left : Int) := by omega
      have hl2 : (left : Int) ≤ 1000 := by omega
      have HS := Lib.hid (rep_step n.natAbs left y (by omega) hle)
      have HY := Lib.hid hy
      have HBR := Lib.hid hbr
      obtain ⟨b0, b1, b2, b3, b4, bfz, bl⟩ := hy
      clear hbr
      go_wp2_with (at_builtin; refine wpList_append_own _ rfl (.tmp 28) (.tmp 30) 35 rfl (w.heap.size + 2) 23 i0 _ 5 40 Try.underlying35 hi hz0 hz1 hz2 rfl (by decide) v (n.natAbs - left) ((List.replicate (n.natAbs - left) y).flatMap uc) rfl (hown.out.alloc _) ⟨wr.heap.size, 0, none⟩ 1 1 (uc y) rfl rfl (five_cells rfl (by simp [go_sem]) (by simp [go_sem]) (by simp [go_sem]) (by simp [go_sem]) (by simp [go_sem])) (five_one rfl) (by unfold maxLen; omega) (by omega) (by simp; omega) ?_; intro v' w4 hown4 hgrow4 _)
      have hn1 := owned_ne (hown.out) (b := w.heap.size) (by omega)
      have hn2 := owned_ne (hown.out) (b := w.heap.size + 1) (by omega)
      have hfr := owned_from hown.out
      have hy4 := (HY.out.later ((Below.refl _ _).alloc (Nat.le_refl _) _)).grown hgrow4 hn1
      have hr4 := (HBR.out.later ((Below.refl _ _).alloc (Nat.le_refl _) _)).grown hgrow4 hn2
      have hb4 := (hb.alloc hbs _).grown hgrow4 (by simp; omega) (fun k hk => by have := hfr k hk; omega)
      have e4 : n.natAbs - left + 1 = n.natAbs - (left - 1) := by omega
      rw [← HS.out, e4] at hown4
      have e5 : ((left : Int) - 1) = ((left - 1 : Nat) : Int) := by omega
      clear hown hgrow4 HS
      go_wp2
      exact ⟨⟨left - 1, _, by omega, by first | rfl | (rw [e5]), rfl, Lib.hid hown4, hy4, hr4, hb4⟩, by simp [intOf]; omega⟩

set_option maxRecDepth 100000 in
set_option maxHeartbeats 3200000 in
theorem refPower_pos (y r : Q) (n er : Int) (w : World) (h : V y) (h1 : 0 ≤ n) (h2 : n ≤ 1000) (hr : prodFrom one (List.replicate n.natAbs y) = (r, er)) : Calls Try.prog 31 #[.agg #[.int .i64 y.a, .int .i64 y.b, .int .i64 y.c, .int .i64 y.d, .int .i64 y.n], .int .i64 n] w fun e w' => e = .returned (.tuple #[.agg #[.int .i64 r.a, .int .i64 r.b, .int .i64 r.c, .int .i64 r.d, .int .i64 r.n], .int .i64 er]) ∧ Below w.heap.size w w' := by
  have c1 := fun W : World => refValidate_any y W 0 (.inl ⟨h, rfl⟩)
  have c4 := fun W : World => wth_yes n W (by omega) h2
  have hV := h
  obtain ⟨i0, hi, hz0, hz1, hz2⟩ := info_parts infoU
  clear h
  have HR := Lib.hid hr
  clear hr
  obtain ⟨m, rfl⟩ : ∃ m : Nat, n = (m : Int) := ⟨n.natAbs, by omega⟩
  rw [Int.natAbs_natCast] at HR
  go_enter Try.func31, Try.ntmps31
  go_wp2_with (first | ((with_reducible refine (c1 _).mono ?_); rintro e w1 ⟨rfl, hw1⟩; have hc1 := Tail.cells hw1; have zw10 := Nat.lt_of_lt_of_le (n := w.heap.size) (by simp <;> omega) hw1.size; have zw11 := Nat.lt_of_lt_of_le (n := w.heap.size + 1) (by simp <;> omega) hw1.size) | ((with_reducible refine (c4 _).mono ?_); rintro e w2 ⟨rfl, rfl⟩))
  have bY : UBox w1 w.heap.size y := (((⟨by simp [go_sem], by simp [go_sem], by simp [go_sem], by simp [go_sem], by simp [go_sem], fun j => by simp [go_sem], by simp⟩ : UBox (w.alloc (.cells #[.int .i64 y.a, .int .i64 y.b, .int .i64 y.c, .int .i64 y.d, .int .i64 y.n] 23)) w.heap.size y).later ((Below.refl _ _).alloc (Nat.le_refl _) _)).later hw1)
  have bR : UBox w1 (w.heap.size + 1) zero := (⟨by simp [go_sem, zero], by simp [go_sem, zero], by simp [go_sem, zero], by simp [go_sem, zero], by simp [go_sem, zero], fun j => by simp [go_sem], by simp⟩ : UBox ((w.alloc (.cells #[.int .i64 y.a, .int .i64 y.b, .int .i64 y.c, .int .i64 y.d, .int .i64 y.n] 23)).alloc (.cells #[.int .i64 0, .int .i64 0, .int .i64 0, .int .i64 0, .int .i64 0] 23)) (w.heap.size + 1) zero).later hw1
  have hB : Below w.heap.size w w1 := by repeat (first | (with_reducible exact Below.refl _ _) | (with_reducible refine Below.setCell ?_ ?_ _) | (with_reducible refine Below.drew ?_) | (with_reducible refine Below.alloc ?_ ?_ _) | (with_reducible refine Below.trans ?_ (Below.mono hw1 ?_)) | (with_reducible exact hw1.size) | omega | (simp <;> omega) | (simp <;> (have s := hw1.size; omega)) | (have s0 := hw1.size; (try simp at s0); (try simp); omega))
  clear hw1 hc1 c1 c4 zw10 zw11
  go_loopw [1, 7] (fun nn vv wr => ∃ (left : Nat) (v : Value), left ≤ m ∧ nn = .int .i64 left ∧ v = vv ∧ Hid (wr.ownsRow (w.heap.size + 2) 23 5 v (m - left) ((List.replicate (m - left) y).flatMap uc)) ∧ UBox wr w.heap.size y ∧ UBox wr (w.heap.size + 1) zero ∧ Below w.heap.size w wr) (fun nn _ _ => (intOf nn).toNat)
  case atStart => exact ⟨m, _, Nat.le_refl _, rfl, rfl, Lib.hid (by rw [Nat.sub_self]; exact World.ownsRow_nil _ _ _ _), bY, bR, hB⟩
  case round =>
    obtain ⟨left, v, hle, rfl, rfl, hown, hy, hbr, hb⟩ := hrel
    clear bY bR hB
    have hbs := hb.size
    have hlt := hbr.lt
    by_cases hl0 : left = 0
    · subst hl0
      have hown' : wr.ownsRow (w.heap.size + 2) 23 5 v (List.replicate m y).length ((List.replicate m y).flatMap uc) := by
        have := hown.out
        rw [Nat.sub_zero] at this
        rw [List.length_replicate]
        exact this
      obtain ⟨ao, cap, hv, hlies⟩ := owned_liesO hown'
      obtain ⟨r', er', -, k2, k3⟩ := products ao cap (List.replicate m y) (by simp; omega)
      have he := HR.out.symm.trans (k3 (fun q hq => by rw [List.eq_of_mem_replicate hq]; exact hV))
      simp only [Prod.mk.injEq] at he
      obtain ⟨rfl, rfl⟩ := he
      rw [List.length_replicate] at hv k2
      subst hv
      have c9 := k2 wr hlies
      have HBR := Lib.hid hbr
      clear hown hown' k2 k3 hlies hy hbr
      go_wp2_with ((with_reducible refine c9.mono ?_); rintro e w4 ⟨rfl, hw4⟩; obtain ⟨d0, d1, d2, d3, d4, df, dl⟩ := HBR.out.later hw4)
      refine bodyPost_ret (v := .tuple #[.agg #[.int .i64 r.a, .int .i64 r.b, .int .i64 r.c, .int .i64 r.d, .int .i64 r.n], .int .i64 er]) ?_ rfl ⟨rfl, ?_⟩
      · simp [results, Try.results31, go_sem, d0, d1, d2, d3, d4]
      · repeat (first | (with_reducible exact Below.refl _ _) | (with_reducible refine Below.setCell ?_ ?_ _) | (with_reducible refine Below.drew ?_) | (with_reducible refine Below.alloc ?_ ?_ _) | (with_reducible refine Below.trans ?_ (Below.mono hw4 ?_)) | (with_reducible refine Below.trans ?_ (Below.mono hb ?_)) | (with_reducible exact hw4.size) | (with_reducible exact hb.size) | omega | (simp <;> omega) | (simp <;> (have s := hw4.size; omega)) | (simp <;> (have s := hb.size; omega)) | (have s0 := hw4.size; (try simp at s0); have s1 := hb.size; (try simp at s1); (try simp); omega))
    · have hl1 : (0 : Int) < (left : Int) := by omega
      have hl2 : (left : Int) ≤ 1000 := by omega
      have HS := Lib.hid (rep_step m left y (by omega) hle)
      have HY := Lib.hid hy
      have HBR := Lib.hid hbr
      obtain ⟨b0, b1, b2, b3, b4, bfz, bl⟩ := hy
      clear hbr
      go_wp2_with (at_builtin; refine wpList_append_own _ rfl (.tmp 28) (.tmp 30) 35 rfl (w.heap.size + 2) 23 i0 _ 5 40 Try.underlying35 hi hz0 hz1 hz2 rfl (by decide) v (m - left) ((List.replicate (m - left) y).flatMap uc) rfl (hown.out.alloc _) ⟨wr.heap.size, 0, none⟩ 1 1 (uc y) rfl rfl (five_cells rfl (by simp [go_sem]) (by simp [go_sem]) (by simp [go_sem]) (by simp [go_sem]) (by simp [go_sem])) (five_one rfl) (by unfold maxLen; omega) (by omega) (by simp; omega) ?_; intro v' w4 hown4 hgrow4 _)
      have hn1 := owned_ne (hown.out) (b := w.heap.size) (by omega)
      have hn2 := owned_ne (hown.out) (b := w.heap.size + 1) (by omega)
      have hfr := owned_from hown.out
      have hy4 := (HY.out.later ((Below.refl _ _).alloc (Nat.le_refl _) _)).grown hgrow4 hn1
      have hr4 := (HBR.out.later ((Below.refl _ _).alloc (Nat.le_refl _) _)).grown hgrow4 hn2
      have hb4 := (hb.alloc hbs _).grown hgrow4 (by simp; omega) (fun k hk => by have := hfr k hk; omega)
      have e4 : m - left + 1 = m - (left - 1) := by omega
      rw [← HS.out, e4] at hown4
      have e5 : ((left : Int) - 1) = ((left - 1 : Nat) : Int) := by omega
      clear hown hgrow4 HS
      go_wp2
      exact ⟨⟨left - 1, _, by omega, by first | rfl | (rw [e5]), rfl, Lib.hid hown4, hy4, hr4, hb4⟩, by simp [intOf]; omega⟩
end Go.Proofs.Ytecoemdpfpdeoaa
