/- The weight of a value of a link, as the program makes it.
Conditions: those written at each theorem. -/
import Derived.Test.YtpfhjdmgkckjfaaGreatDoorATrcC
namespace Go.Proofs.YtpfhjdmgkckjfaaGreatDoor
set_option linter.unusedVariables false
set_option linter.unusedSimpArgs false
set_option maxRecDepth 1000000
open Go.RowKit
open Um Tm Cm

/-- a small field -/
structure SmF (a b c : Int) (L : List Q) : Prop where
  z : Sz a b c
  n : (L.length : Int) = 3 * (a * b * c)
  s : ∀ x ∈ L, Sm x
theorem SmF.le {a b c : Int} {L : List Q} (h : SmF a b c L) : L.length ≤ 48 := by have := h.n; have := h.z.p; omega
theorem sdl_ok {a b c p l : Int} {L : List Q} {u : Q} (h : SmF a b c L) (h0 : 0 ≤ p) (h1 : p < 3 * (a * b * c)) (hu : Sm u) : (∀ x ∈ sdl a b c p, 0 ≤ x.1 ∧ x.1 < L.length) ∧ ∀ x ∈ sdl a b c p, Sm (lkv L l u x.1) := by
  obtain ⟨-, -, -, -, -, -, -, hq⟩ := sides_eq h.z h0 h1
  have key : ∀ x ∈ sdl a b c p, 0 ≤ x.1 ∧ x.1 < L.length := fun x hx => by
    unfold sdl at hx
    have := hq x.1 (List.of_mem_zip (a := x.1) (b := x.2) hx).1
    rw [h.n]
    exact this
  refine ⟨key, fun x hx => ?_⟩
  obtain ⟨k0, k1⟩ := key x hx
  obtain ⟨n, hn⟩ := Int.eq_ofNat_of_zero_le k0
  rw [hn] at k1 ⊢
  have hl : n < L.length := by omega
  rw [lkv_at (List.getElem?_eq_getElem hl)]
  split
  · exact hu
  · exact h.s _ (List.getElem_mem hl)
/-- five weights in a box -/
structure WB (w : World) (b : Nat) (ws : List Int) : Prop where
  h : ∀ (i : Nat) (x : Int), ws[i]? = some x → w.cell? ⟨b, i, none⟩ = some (.int .i64 x)
  lt : b < w.heap.size
theorem WB.later {w w1 : World} {b : Nat} {ws : List Int} (h : WB w b ws) (hb : Below w.heap.size w w1) : WB w1 b ws :=
  ⟨fun i x hx => (hb.cell h.lt).trans (h.h i x hx), Nat.lt_of_lt_of_le h.lt hb.size⟩
/-- weights are from 1 to 100 -/
def WOk (ws : List Int) : Prop := ws.length = 5 ∧ ∀ x ∈ ws, 1 ≤ x ∧ x ≤ 100
theorem wat_rng {ws : List Int} (h : WOk ws) {t : Int} (h0 : -2 ≤ t) (h1 : t ≤ 2) : ws[(t + 2).toNat]? = some (wat ws t) ∧ 1 ≤ wat ws t ∧ wat ws t ≤ 100 := by
  have hl : (t + 2).toNat < ws.length := by rw [h.1]; omega
  have e : ws[(t + 2).toNat]? = some (wat ws t) := by
    unfold wat
    rw [List.getD_eq_getElem?_getD, List.getElem?_eq_getElem hl]
    rfl
  have := h.2 _ (List.mem_of_getElem? e)
  exact ⟨e, this.1, this.2⟩
theorem wprod_snoc (a b c : Int) (L : List Q) (ws : List Int) (l : Int) (u : Q) (ps : List Int) (p : Int) : wprod a b c L ws l u (ps ++ [p]) = wprod a b c L ws l u ps * wat ws (trp a b c L l u p) := by
  simp [wprod]
theorem trp_rng {a b c p l : Int} {L : List Q} {u : Q} (h : SmF a b c L) (h0 : 0 ≤ p) (h1 : p < 3 * (a * b * c)) (hu : Sm u) : -2 ≤ trp a b c L l u p ∧ trp a b c L l u p ≤ 2 := by
  have k := sdv_prod (l := l) (sdl_ok h h0 h1 hu).2
  have f := k.2.1.facts
  exact ⟨f.2.2.2.2.1, f.2.2.2.2.2.1⟩
theorem wprod_rng {a b c l : Int} {L : List Q} {ws : List Int} {u : Q} (h : SmF a b c L) (hw : WOk ws) (hu : Sm u) : ∀ (ps : List Int), (∀ p ∈ ps, 0 ≤ p ∧ p < 3 * (a * b * c)) → ∀ k, k ≤ ps.length → 1 ≤ wprod a b c L ws l u (ps.take k) ∧ wprod a b c L ws l u (ps.take k) ≤ 100 ^ k := by
  intro ps hp k hk
  induction k with
  | zero => simp [wprod]
  | succ k ih =>
    have ih := ih (by omega)
    have hlt : k < ps.length := by omega
    rw [List.take_succ_eq_append_getElem hlt, wprod_snoc]
    have hr := hp _ (List.getElem_mem hlt)
    have ht := trp_rng (l := l) h hr.1 hr.2 hu
    obtain ⟨-, w1, w2⟩ := wat_rng hw ht.1 ht.2
    generalize wat ws (trp a b c L l u ps[k]) = y at *
    generalize wprod a b c L ws l u (ps.take k) = x at *
    refine ⟨?_, ?_⟩
    · have := Int.mul_le_mul ih.1 w1 (by omega) (by omega)
      omega
    · rw [Int.pow_succ]
      exact Int.mul_le_mul ih.2 w2 (by omega) (by have := ih.1; omega)
theorem five_at {w : World} {b : Nat} {x0 x1 x2 x3 x4 : Int} (h0 : w.cell? ⟨b, 0, none⟩ = some (.int .i64 x0)) (h1 : w.cell? ⟨b, 1, none⟩ = some (.int .i64 x1)) (h2 : w.cell? ⟨b, 2, none⟩ = some (.int .i64 x2)) (h3 : w.cell? ⟨b, 3, none⟩ = some (.int .i64 x3)) (h4 : w.cell? ⟨b, 4, none⟩ = some (.int .i64 x4)) : WB w b [x0, x1, x2, x3, x4] :=
  ⟨fun i v hv => by
    match i, hv with
    | 0, hv => simp at hv; subst hv; exact h0
    | 1, hv => simp at hv; subst hv; exact h1
    | 2, hv => simp at hv; subst hv; exact h2
    | 3, hv => simp at hv; subst hv; exact h3
    | 4, hv => simp at hv; subst hv; exact h4
    | n + 5, hv => simp at hv, World.block_lt_of_cell? w _ h0⟩
set_option maxHeartbeats 6400000 in
theorem weight_some (a b c l : Int) (L : List Q) (u : Q) (bl off cap k pb po : Nat) (xs : List Value) (ps : List Int) (w0 w1 w2 w3 w4 : Int) (w : World) (hF : SmF a b c L) (hL : Lies w bl off L) (hP : PLs a b c w xs ps) (hX : ∀ (i : Nat) (x : Value), xs[i]? = some x → w.cell? ⟨pb, po + i, none⟩ = some x) (hps : ∀ p ∈ ps, 0 ≤ p ∧ p < 3 * (a * b * c)) (hp4 : ps.length ≤ 4) (hw : WOk [w0, w1, w2, w3, w4]) (hu : Sm u) :
    Calls Tryz.prog 80 #[.agg #[.slice (some ⟨bl, off, none⟩) L.length cap, .int .i64 l, .slice (some ⟨pb, po, none⟩) ps.length k], .agg #[.int .i64 w0, .int .i64 w1, .int .i64 w2, .int .i64 w3, .int .i64 w4], .agg #[.int .i64 u.a, .int .i64 u.b, .int .i64 u.c, .int .i64 u.d, .int .i64 u.n]] w fun e w' => e = .returned (.tuple #[.int .i64 (wprod a b c L [w0, w1, w2, w3, w4] l u ps), .int .i64 0]) ∧ Below w.heap.size w w' := by
  have c1 := fun (p : Int) (g q : Nat) (W : World) (hp : 0 ≤ p ∧ p < 3 * (a * b * c)) hL hS => trace_any a b c p l L u bl off cap g q (.slice (some ⟨pb, po, none⟩) ps.length k) W hL hS (sdl_ok (l := l) hF hp.1 hp.2 hu).1 (sdl_ok (l := l) hF hp.1 hp.2 hu).2 hF.le hu.v (fun x hx => (hF.s x hx).v)
  have HL := Lib.hid hL
  have HP := Lib.hid hP
  have HX := Lib.hid hX
  have HPS := Lib.hid hps
  have HT := Lib.hid (fun p hp => trp_rng (l := l) hF (hps p hp).1 (hps p hp).2 hu)
  have HW := Lib.hid (fun t h0 h1 => wat_rng hw (t := t) h0 h1)
  have HQ := Lib.hid (wprod_rng (l := l) hF hw hu ps hps)
  have HS := Lib.hid (wprod_snoc a b c L [w0, w1, w2, w3, w4] l u)
  have H0 := Lib.hid (show wprod a b c L [w0, w1, w2, w3, w4] l u (ps.take 0) = 1 from rfl)
  have HC := Lib.hid c1
  clear hF hL hP hX hps hw hu c1
  go_enter Tryz.func80, Tryz.ntmps80
  go_wp2
  have cb0 := ((⟨by simp [go_sem], by simp [go_sem], by simp [go_sem], fun j => by simp [go_sem], by simp <;> omega⟩ : CB (w.alloc (.cells #[.slice (some ⟨bl, off, none⟩) L.length cap, .int .i64 l, .slice (some ⟨pb, po, none⟩) ps.length k] 122)) w.heap.size (.slice (some ⟨bl, off, none⟩) L.length cap) l (.slice (some ⟨pb, po, none⟩) ps.length k)).later ((Below.refl _ _).alloc (Nat.le_refl _) (.cells #[.int .i64 w0, .int .i64 w1, .int .i64 w2, .int .i64 w3, .int .i64 w4] 26))).later ((Below.refl _ _).alloc (Nat.le_refl _) (.cells #[.int .i64 u.a, .int .i64 u.b, .int .i64 u.c, .int .i64 u.d, .int .i64 u.n] 73))
  have wb0 := (five_at (by simp [go_sem]) (by simp [go_sem]) (by simp [go_sem]) (by simp [go_sem]) (by simp [go_sem]) : WB ((w.alloc (.cells #[.slice (some ⟨bl, off, none⟩) L.length cap, .int .i64 l, .slice (some ⟨pb, po, none⟩) ps.length k] 122)).alloc (.cells #[.int .i64 w0, .int .i64 w1, .int .i64 w2, .int .i64 w3, .int .i64 w4] 26)) (w.heap.size + 1) [w0, w1, w2, w3, w4]).later ((Below.refl _ _).alloc (Nat.le_refl _) (.cells #[.int .i64 u.a, .int .i64 u.b, .int .i64 u.c, .int .i64 u.d, .int .i64 u.n] 73))
  have ur0 : URead (((w.alloc (.cells #[.slice (some ⟨bl, off, none⟩) L.length cap, .int .i64 l, .slice (some ⟨pb, po, none⟩) ps.length k] 122)).alloc (.cells #[.int .i64 w0, .int .i64 w1, .int .i64 w2, .int .i64 w3, .int .i64 w4] 26)).alloc (.cells #[.int .i64 u.a, .int .i64 u.b, .int .i64 u.c, .int .i64 u.d, .int .i64 u.n] 73)) (w.heap.size + 1 + 1) u := ⟨by simp [go_sem], by simp [go_sem], by simp [go_sem], by simp [go_sem], by simp [go_sem], by simp⟩
  have hB : Below w.heap.size w (((w.alloc (.cells #[.slice (some ⟨bl, off, none⟩) L.length cap, .int .i64 l, .slice (some ⟨pb, po, none⟩) ps.length k] 122)).alloc (.cells #[.int .i64 w0, .int .i64 w1, .int .i64 w2, .int .i64 w3, .int .i64 w4] 26)).alloc (.cells #[.int .i64 u.a, .int .i64 u.b, .int .i64 u.c, .int .i64 u.d, .int .i64 u.n] 73)) := by repeat (first | (with_reducible exact Below.refl _ _) | (with_reducible refine Below.setCell ?_ ?_ _) | (with_reducible refine Below.drew ?_) | (with_reducible refine Below.alloc ?_ ?_ _) | omega | (simp <;> omega))
  go_loopw [8, 10, 11, 12, 16] (fun f _ _ _ q wr => ∃ (j : Nat), j ≤ ps.length ∧ q = .int .i64 j ∧ f = .int .i64 (wprod a b c L [w0, w1, w2, w3, w4] l u (ps.take j)) ∧ CB wr w.heap.size (.slice (some ⟨bl, off, none⟩) L.length cap) l (.slice (some ⟨pb, po, none⟩) ps.length k) ∧ WB wr (w.heap.size + 1) [w0, w1, w2, w3, w4] ∧ URead wr (w.heap.size + 1 + 1) u ∧ Below w.heap.size w wr) (fun _ _ _ _ q _ => ps.length - (intOf q).toNat)
  case atStart => exact ⟨0, by omega, rfl, by rw [H0.out], cb0, wb0, ur0, hB⟩
  case round =>
    obtain ⟨j, hj, rfl, rfl, cb, wb, ur, hb⟩ := hrel
    clear cb0 wb0 ur0 hB
    have hbs := hb.size
    have CBH := Lib.hid cb
    have WBH := Lib.hid wb
    have URH := Lib.hid ur
    by_cases hlt : j < ps.length
    · have i1 : (j : Int) < (ps.length : Int) := by omega
      have hx : ps[j]? = some ps[j] := List.getElem?_eq_getElem hlt
      obtain ⟨g, q, hxs, hls⟩ := HP.out.2 j _ hx
      have y1 := (hb.cell (World.block_lt_of_cell? w _ (HX.out j _ hxs))).trans (HX.out j _ hxs)
      have hpm := List.mem_of_getElem? hx
      have hpr := HPS.out _ hpm
      obtain ⟨t1, t2⟩ := HT.out _ hpm
      have c2 := HC.out ps[j] g q
      have htk := List.take_succ_eq_append_getElem hlt
      have hsn := HS.out (ps.take j) ps[j]
      rw [← htk] at hsn
      obtain ⟨wt0, wt1, wt2⟩ := HW.out _ t1 t2
      obtain ⟨p1, p2⟩ := HQ.out j (by omega)
      have p3 : (100 : Int) ^ j ≤ 1000000 := by
        have h : j = 0 ∨ j = 1 ∨ j = 2 ∨ j = 3 := by omega
        rcases h with h | h | h | h <;> rw [h] <;> decide
      have p4 : wprod a b c L [w0, w1, w2, w3, w4] l u (ps.take j) ≤ 1000000 := Int.le_trans p2 p3
      have HSN := Lib.hid hsn
      have LS := Lib.hid (hls.later hb)
      have HLW := Lib.hid (HL.out.later hb)
      have HPR := Lib.hid hpr
      obtain ⟨e0, e1, e2, ef, el⟩ := cb
      obtain ⟨u0, u1, u2, u3, u4, ul⟩ := ur
      clear hx hxs hls hpm hpr htk hsn p2 p3 wb
      generalize wprod a b c L [w0, w1, w2, w3, w4] l u (ps.take j) = pr at *
      have hm0 : 1 ≤ pr * wat [w0, w1, w2, w3, w4] (trp a b c L l u ps[j]) ∧ pr * wat [w0, w1, w2, w3, w4] (trp a b c L l u ps[j]) ≤ 100000000 := by
        refine ⟨?_, ?_⟩
        · have := Int.mul_le_mul p1 wt1 (by omega) (by omega)
          omega
        · have := Int.mul_le_mul p4 wt2 (by omega) (by omega)
          omega
      obtain ⟨m0, m1⟩ := hm0
      generalize hy : wat [w0, w1, w2, w3, w4] (trp a b c L l u ps[j]) = y at *
      have HY := Lib.hid hy
      clear hy
      generalize hz : trp a b c L l u ps[j] = z at *
      have HZ := Lib.hid hz
      clear hz
      have hz5 : z = -2 ∨ z = -1 ∨ z = 0 ∨ z = 1 ∨ z = 2 := by omega
      have x1 := WBH.out.h _ _ wt0
      rcases hz5 with rfl | rfl | rfl | rfl | rfl
      all_goals
        simp only [Int.reduceAdd, Int.reduceNeg, Int.reduceToNat] at x1
        go_wp2_with ((with_reducible refine (c2 _ HPR.out (HLW.out.later (Below.refl _ _)) (LS.out.later (Below.refl _ _))).mono ?_); clear c2; rintro e w5 ⟨rfl, hw5⟩; have hc5 := Tail.cells hw5; have x2 := (hc5.1 _ _ WBH.out.lt).trans x1)
        exact ⟨⟨j + 1, by omega, by go_num, by rw [HSN.out], CBH.out.later hw5, WBH.out.later hw5, URH.out.later hw5, by repeat (first | (with_reducible exact Below.refl _ _) | (with_reducible refine Below.setCell ?_ ?_ _) | (with_reducible refine Below.drew ?_) | (with_reducible refine Below.alloc ?_ ?_ _) | (with_reducible refine Below.trans ?_ (Below.mono hw5 ?_)) | (with_reducible refine Below.trans ?_ (Below.mono hb ?_)) | (with_reducible exact hw5.size) | (with_reducible exact hb.size) | omega | (simp <;> omega) | (simp <;> (have s := hw5.size; omega)) | (simp <;> (have s := hb.size; omega)) | (have s0 := hw5.size; (try simp at s0); have s1 := hb.size; (try simp at s1); (try simp); omega))⟩, by simp [intOf]; omega⟩
    · obtain rfl : j = ps.length := by omega
      have e : wprod a b c L [w0, w1, w2, w3, w4] l u (ps.take ps.length) = wprod a b c L [w0, w1, w2, w3, w4] l u ps := by rw [List.take_length]
      have HE := Lib.hid e
      clear e cb wb ur
      go_wp2
      go_ret2
      exact ⟨by rw [← HE.out]; rfl, hb⟩
end Go.Proofs.YtpfhjdmgkckjfaaGreatDoor
