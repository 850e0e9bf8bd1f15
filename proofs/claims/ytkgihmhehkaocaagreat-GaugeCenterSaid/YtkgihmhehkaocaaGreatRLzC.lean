/- Means of traces along a path from all sites, as the program and the document's answers make them.
Conditions: the lists lie in memory as it is written at each theorem. -/
import Derived.Test.YtkgihmhehkaocaaGreatRGetL
namespace Go.Proofs.YtkgihmhehkaocaaGreat
set_option linter.unusedVariables false
set_option linter.unusedSimpArgs false
set_option maxRecDepth 1000000
open Go.RowKit
open Um Tm Lm

theorem RB.farZ {w w1 : World} {b : Nat} {r : Int × Int} {row : Option Nat} (h : RB w b r) (hg : w.grownBy w1 row) (hne : some b ≠ row) : RB w1 b r :=
  ⟨hg.cell h.c0 hne, hg.cell h.c1 hne, fun j => (World.frozen?_of_block (a := ⟨b, j, none⟩) (hg.block b h.lt hne)).trans (h.free j), Nat.lt_of_lt_of_le h.lt hg.size⟩
def tl (a b c : Int) (L : List Q) (p : List Int) (N : Nat) : List (Int × Int) := (List.range N).map fun (i : Nat) => tr (al a b c L (i : Int) p)
theorem tl_len (a b c : Int) (L : List Q) (p : List Int) (N : Nat) : (tl a b c L p N).length = N := by simp [tl]
theorem tl_get (a b c : Int) (L : List Q) (p : List Int) (N k : Nat) (hk : k < (tl a b c L p N).length) : (tl a b c L p N)[k] = tr (al a b c L (k : Int) p) := by simp [tl]
theorem tl_rt {a b c : Int} {L : List Q} {p : List Int} {N : Nat} (hF : Fl a b c L) (hN : (N : Int) = a * b * c) (hs : ∀ t ∈ p, IsStep t) (h8 : p.length ≤ 8) : ∀ r ∈ tl a b c L p N, Rt 2 r := by
  intro r hr
  simp only [tl, List.mem_map, List.mem_range] at hr
  obtain ⟨i, hi, rfl⟩ := hr
  exact tr_rt _ (hF.ups (i : Int) p (by omega) (by omega) hs) (by rw [ups_len]; exact h8)
set_option maxHeartbeats 6400000 in
theorem meanAlong_ok (a b c : Int) (bl off cap pc N : Nat) (ao : Option Addr) (L : List Q) (p : List Int) (w : World) (hl : Lies w bl off L) (hp : LiesOI w ao p) (hF : Fl a b c L) (hN : (N : Int) = a * b * c) (hs : ∀ t ∈ p, IsStep t) (h8 : p.length ≤ 8) (hc : Clo a b c p) : Calls Tryz.prog 43 #[.agg #[.int .i64 a, .int .i64 b, .int .i64 c, .slice (some ⟨bl, off, none⟩) L.length cap], .slice ao p.length pc] w fun e w' => e = .returned (.tuple #[.agg #[.int .i64 ((meanR (tl a b c L p N))).1, .int .i64 ((meanR (tl a b c L p N))).2], .int .i64 0]) ∧ Below w.heap.size w w' := by
  obtain ⟨-, -, p3, -⟩ := mul_rng hF.z.a1 hF.z.a4 hF.z.b1 hF.z.b4 hF.z.c1 hF.z.c4
  have hp16 := hF.z.p
  have cS := fun (W : World) => sites_any a b c (N : Int) 0 W (.inr ⟨hF.z, hN, rfl⟩)
  have hTL := tl_len a b c L p N
  have hTr := tl_rt hF hN hs h8
  have c3 : ∀ (k : Nat), k < N → ∀ (hk2 : k < (tl a b c L p N).length) (W : World), Lies W bl off L → LiesOI W ao p → Calls Tryz.prog 78 #[.agg #[.int .i64 a, .int .i64 b, .int .i64 c, .slice (some ⟨bl, off, none⟩) L.length cap], .int .i64 (k : Int), .slice ao p.length pc] W fun e w' => e = .returned (.tuple #[.agg #[.int .i64 ((tl a b c L p N)[k]).1, .int .i64 ((tl a b c L p N)[k]).2], .int .i64 0]) ∧ Below W.heap.size W w' := fun k hk hk2 W h1 h2 => by
    rw [tl_get]
    exact traceL_ok a b c k bl off ao cap pc L p W h1 h2 (.inr ⟨Fl_fldR hF, .inr ⟨hF.z, by omega, by omega, .inr (.inr ⟨h8, hs, rfl⟩)⟩⟩) ((closed_iff hF.z (by omega) (by omega) p).2 hc)
  have cM := fun (ao : Option Addr) (k : Nat) (W : World) (h : LiesOI W ao (rl (tl a b c L p N))) => mean3_any ao k (tl a b c L p N) W h (by omega) (by omega) hTr
  rw [hTL] at cM
  obtain ⟨i0, hi, hz0, hz1, hz2⟩ := info_parts infoRt
  have H := Lib.hid hl
  have HP := Lib.hid hp
  have n16 : N ≤ 16 := by omega
  have m0 : 0 < N := by omega
  have hl2 : N ≤ maxLen := by unfold maxLen; omega
  have hl3 : i0.bytes * N ≤ 281474976710656 := by rw [hz2]; omega
  clear hl hp hF hN p3 hp16 hs h8 hc hTr
  generalize meanR (tl a b c L p N) = z at *
  generalize tl a b c L p N = T at *
  have HC := Lib.hid c3
  have CM := Lib.hid cM
  have HTL := Lib.hid hTL
  have H0 := Lib.hid (show (rl (T.take 0)).map vi = [] by rw [List.take_zero]; rfl)
  clear c3 cM hTL
  go_enter Tryz.func43, Tryz.ntmps43
  have f0 := Lib.hid (FW.n2a (w := w) (x := a) (y := b) (z := c) (v := .slice (some ⟨bl, off, none⟩) L.length cap) (T := 25) (o := .cells #[.int .i64 0, .int .i64 0] 46))
  have r0 : RB ((w.alloc (.cells #[.int .i64 a, .int .i64 b, .int .i64 c, .slice (some ⟨bl, off, none⟩) L.length cap] 25)).alloc (.cells #[.int .i64 0, .int .i64 0] 46)) (w.heap.size + 1) (0, 0) := ⟨by simp [go_sem], by simp [go_sem], fun j => by simp [go_sem], by simp <;> omega⟩
  have R0 := Lib.hid r0
  clear r0
  go_wp2_with (first
    | ((with_reducible refine (cS _).mono ?_); clear cS; rintro e w2 ⟨rfl, hw2⟩; have s2 := hw2.size)
    | (at_make; refine wpList_make_own _ rfl _ _ 115 rfl w2.heap.size 46 i0 _ 2 Tryz.underlying115 hi hz0 hz1 _ _ _ N rfl rfl rfl hl3 hl2 (Nat.le_refl _) ?_; intro w3 hown hgrow))
  have b0 : Below w.heap.size w w2 := by repeat (first | (with_reducible exact Below.refl _ _) | (with_reducible refine Below.setCell ?_ ?_ _) | (with_reducible refine Below.drew ?_) | (with_reducible refine Below.alloc ?_ ?_ _) | (with_reducible refine Below.trans ?_ (Below.mono hw2 ?_)) | (with_reducible exact hw2.size) | omega | (simp <;> omega) | (simp <;> (have s := hw2.size; omega)) | (have s0 := hw2.size; (try simp at s0); (try simp); omega))
  have b2 : Below w2.heap.size w2 w3 := (Below.refl _ _).grown hgrow (by omega) (by simp)
  have f3 := Lib.hid ((f0.out.later hw2).later b2)
  have r3 := Lib.hid ((R0.out.later hw2).later b2)
  have s4 : w2.heap.size + 1 ≤ w3.heap.size := by
    have := (hown.lt w2.heap.size rfl).2
    omega
  have s5 : w.heap.size + 2 ≤ w2.heap.size := by simp at s2; omega
  have b3 : Below w.heap.size w w3 := b0.trans (b2.mono b0.size)
  clear hgrow hw2 b2 s2 b0 f0 R0
  generalize w2.heap.size = B at *
  go_loopw [8, 9, 10, 11, 25] (fun f _ _ _ q wr => ∃ k : Nat, k ≤ N ∧ q = .int .i64 k ∧ f = .slice (some ⟨B, 0, none⟩) k N ∧ Hid (wr.ownsRow B 46 2 (.slice (some ⟨B, 0, none⟩) k N) k ((rl (T.take k)).map vi)) ∧ Hid (FW wr w.heap.size a b c (.slice (some ⟨bl, off, none⟩) L.length cap)) ∧ Hid (RB wr (w.heap.size + 1) (0, 0)) ∧ Below w.heap.size w wr ∧ B + 1 ≤ wr.heap.size) (fun _ _ _ _ q _ => N - (intOf q).toNat)
  case atStart => exact ⟨0, by omega, rfl, rfl, Lib.hid (by rw [H0.out]; exact hown), f3, r3, b3, s4⟩
  case round =>
    obtain ⟨k, hk, rfl, rfl, hown, hf, hr, hb, hgs⟩ := hrel
    clear b3 f3 r3
    have hbs := hb.size
    by_cases hlt : k < N
    · have i1 : (k : Int) < (N : Int) := by omega
      have i3 : k < T.length := by have := HTL.out; omega
      have q1 := rl_take i3
      have d0 := HC.out k hlt i3
      generalize T[k] = y at *
      have Q1 := Lib.hid q1
      clear q1 i3
      obtain ⟨f0, f1, f2, f3, ff, fl⟩ := hf.out
      go_wp2_with (first
        | ((with_reducible refine (d0 _ (H.out.later hb) (HP.out.later hb)).mono ?_); clear d0; rintro e w4 ⟨rfl, hw4⟩; have s6 := hw4.size; have b4 : Below w.heap.size w w4 := hb.trans (hw4.mono hbs); have HO4 := Lib.hid (owned_later hown.out hw4); have hf4 := Lib.hid (hf.out.later hw4); have hr4 := Lib.hid (hr.out.later hw4))
        | (at_builtin; refine wpList_append_fits _ rfl (.tmp 39) (.tmp 41) 115 rfl B 46 i0 2 Tryz.underlying115 hi hz1 B k N ((rl (T.take k)).map vi) rfl ((HO4.out.alloc _).alloc _) ⟨w4.heap.size + 1, 0, none⟩ 1 1 [vi y.1, vi y.2] rfl rfl (two_cells rfl (by simp [go_sem, vi]) (by simp [go_sem, vi])) (rt_ones _ _) (by omega) ?_; intro w5 hown5 hgrow5))
      have b4s := b4.size
      have hb5 : Below w.heap.size w w5 := Below.grown (by repeat (first | (with_reducible exact Below.refl _ _) | (with_reducible refine Below.setCell ?_ ?_ _) | (with_reducible refine Below.drew ?_) | (with_reducible refine Below.alloc ?_ ?_ _) | (with_reducible refine Below.trans ?_ (Below.mono b4 ?_)) | (with_reducible exact b4.size) | omega | (simp <;> omega) | (simp <;> (have s := b4.size; omega)) | (have s0 := b4.size; (try simp at s0); (try simp); omega))) hgrow5 (by simp; omega) (fun j hj => by simp at hj; omega)
      have hf5 := Lib.hid ((hf4.out.later ba2).grown hgrow5 (by simp; omega))
      have hr5 := Lib.hid ((hr4.out.later ba2).farZ hgrow5 (by simp; omega))
      have ho : w5.ownsRow B 46 2 (.slice (some ⟨B, 0, none⟩) (k + 1) N) (k + 1) ((rl (T.take (k + 1))).map vi) := by rw [Q1.out]; exact hown5
      have s7 := hgrow5.size
      simp at s7
      clear hown5 hgrow5 hown hw4 f0 f1 f2 f3 ff fl hf hr hf4 hr4 HO4
      go_wp2
      exact ⟨⟨k + 1, by omega, by go_num, rfl, Lib.hid ho, hf5, hr5, hb5, by omega⟩, by simp [intOf]; omega⟩
    · obtain rfl : k = N := by omega
      have e : T.take k = T := List.take_of_length_le (by rw [HTL.out]; exact Nat.le_refl _)
      have ho := hown.out
      rw [e] at ho
      obtain ⟨ao2, cv, hv, hli⟩ := rl_owned ho HTL.out
      simp only [Value.slice.injEq] at hv
      obtain ⟨rfl, -, rfl⟩ := hv
      have cM := fun k => CM.out _ k _ hli
      clear hown ho hli
      go_wp2_with (fail)
      refine (cM _).mono ?_
      rintro e w6 ⟨rfl, hw6⟩
      obtain ⟨g0, g1, gf, gl⟩ := hr.out.later hw6
      go_wp2
      refine bodyPost_ret (v := .tuple #[.agg #[.int .i64 (z).1, .int .i64 (z).2], .int .i64 0]) ?_ rfl ⟨rfl, ?_⟩
      · simp [results, Tryz.results43, go_sem, g0, g1, gl]
      · repeat (first | (with_reducible exact Below.refl _ _) | (with_reducible refine Below.setCell ?_ ?_ _) | (with_reducible refine Below.drew ?_) | (with_reducible refine Below.alloc ?_ ?_ _) | (with_reducible refine Below.trans ?_ (Below.mono hw6 ?_)) | (with_reducible refine Below.trans ?_ (Below.mono hb ?_)) | (with_reducible exact hw6.size) | (with_reducible exact hb.size) | omega | (simp <;> omega) | (simp <;> (have s := hw6.size; omega)) | (simp <;> (have s := hb.size; omega)) | (have s0 := hw6.size; (try simp at s0); have s1 := hb.size; (try simp at s1); (try simp); omega))
end Go.Proofs.YtkgihmhehkaocaaGreat
