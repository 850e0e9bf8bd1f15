/- The weights of the values of a link, as a list that can be summed; a link that is set.
Conditions: those written at each theorem. -/
import Derived.Test.YtpfhjdmgkckjfaaGreatDoorARatC5
import Derived.Test.YtpfhjdmgkckjfaaGreatDoorATabB
import Derived.Test.YtpfhjdmgkckjfaaGreatDoorARvwC
import Derived.Test.YtpfhjdmgkckjfaaGreatDoorAOpenW5
namespace Go.Proofs.YtpfhjdmgkckjfaaGreatDoor
set_option linter.unusedVariables false
set_option linter.unusedSimpArgs false
set_option maxRecDepth 1000000
open Go.RowKit
open Um Tm Cm

theorem wg_of {a b c l : Int} {L : List Q} {ws : List Int} (hF : SmF a b c L) (hw : WOk ws) (l0 : 0 ≤ l) (l1 : l < 3 * (a * b * c)) (k : Nat) (hk : k < 24) : Wg (wprod a b c L ws l (small (k : Int)) (thr a b c l)) := by
  obtain ⟨hn1, hn4⟩ := thr_some hF.z l0 l1
  have hs : Sm (small (k : Int)) := ⟨k, hk, rfl⟩
  obtain ⟨k1, k2⟩ := wprod_rng (l := l) hF hw hs (thr a b c l) (fun p hp => by obtain ⟨j, hj⟩ := List.getElem?_of_mem hp; exact thr_rng hj) (thr a b c l).length (Nat.le_refl _)
  rw [List.take_length] at k1 k2
  refine ⟨k1, Int.le_trans k2 ?_⟩
  have h : (thr a b c l).length = 1 ∨ (thr a b c l).length = 2 ∨ (thr a b c l).length = 3 ∨ (thr a b c l).length = 4 := by omega
  rcases h with h | h | h | h <;> rw [h] <;> decide
theorem WL_of {a b c l : Int} {L : List Q} {ws : List Int} (hF : SmF a b c L) (hw : WOk ws) (l0 : 0 ≤ l) (l1 : l < 3 * (a * b * c)) : WL (wsK a b c L ws l (thr a b c l) 24) := by
  have key : ∀ x ∈ wsK a b c L ws l (thr a b c l) 24, Wg x := fun x hx => by
    unfold wsK at hx
    obtain ⟨k, hk, rfl⟩ := List.mem_map.1 hx
    exact wg_of hF hw l0 l1 k (List.mem_range.1 hk)
  exact ⟨wsK_len _ _ _ _ _ _ _ _, fun x hx => (key x hx).1, fun x hx => (key x hx).2⟩
end Go.Proofs.YtpfhjdmgkckjfaaGreatDoor

namespace Go.Proofs.YtpfhjdmgkckjfaaGreatDoor
set_option linter.unusedVariables false
set_option linter.unusedSimpArgs false
set_option maxRecDepth 1000000
open Go.RowKit
open Um Tm

set_option maxHeartbeats 1600000 in
theorem clone_some (bl off cap : Nat) (L : List Q) (w : World) (hl : Lies w bl off L) (hpos : 0 < L.length) (hlen : L.length ≤ 100) : Calls Tryz.prog 84 #[.slice (some ⟨bl, off, none⟩) L.length cap] w fun e w' => ∃ g k : Nat, e = .returned (.slice (some ⟨g, 0, none⟩) L.length k) ∧ LBox w' g L ∧ w.heap.size ≤ g ∧ Below w.heap.size w w' := by
  obtain ⟨i0, hi, hz0, hz1, hz2⟩ := info_parts infoU
  have H := Lib.hid hl
  have q := fun W : World => Lib.run_eql_slice_nil (P := Tryz.prog) W 23 73 (some ⟨bl, off, none⟩) L.length cap 0 0 Tryz.underlying23
  clear hl
  go_enter Tryz.func84, Tryz.ntmps84
  go_wp2_with (at_builtin; refine wpList_append_own _ rfl (.tmp 5) (.tmp 6) 23 rfl w.heap.size 73 i0 _ 5 40 Tryz.underlying23 hi hz0 hz1 hz2 rfl (by decide) (.slice (some ⟨w.heap.size, 0, none⟩) 0 0) 0 [] rfl (World.ownsRow_lit w #[] 0 (Nat.le_refl _) (by unfold maxLen; omega) (by simp)) ⟨bl, off, none⟩ L.length cap (L.flatMap uc) rfl (flat_len uc 5 uc_len L) (lies_news (H.out.later ((Below.refl _ _).alloc (Nat.le_refl _) _))) (lies_ones L) (by unfold maxLen; omega) (by omega) (by simp) ?_; intro v' w1 hown hgrow _)
  obtain ⟨g, k, rfl, hg⟩ := owned5_some hown (by omega)
  obtain ⟨LB, hgb⟩ := owned_LBox (Nat.zero_add _) (by simpa using hown)
  have hb := ((Below.refl w.heap.size w).alloc (Nat.le_refl _) (.cells #[] 73)).grown hgrow (by simp) (fun j hj => by simp [Value.ownBlock] at hj; omega)
  clear hown hgrow
  go_ret
  exact ⟨g, k, by simp, LB, hgb, hb⟩
end Go.Proofs.YtpfhjdmgkckjfaaGreatDoor

namespace Go.Proofs.YtpfhjdmgkckjfaaGreatDoor
set_option linter.unusedVariables false
set_option linter.unusedSimpArgs false
set_option maxRecDepth 1000000
open Go.RowKit
open Um Tm

set_option maxHeartbeats 3200000 in
theorem copied5_any (a b c : Int) (bl off cap : Nat) (L : List Q) (w : World) (hl : Lies w bl off L) (hpos : 0 < L.length) (hlen : L.length ≤ 100) : Calls Tryz.prog 47 #[.agg #[.int .i64 a, .int .i64 b, .int .i64 c, .slice (some ⟨bl, off, none⟩) L.length cap]] w fun e w' => (∃ g k : Nat, e = .returned (.agg #[.int .i64 a, .int .i64 b, .int .i64 c, .slice (some ⟨g, 0, none⟩) L.length k]) ∧ LBox w' g L ∧ w.heap.size ≤ g) ∧ Below w.heap.size w w' := by
  have H := Lib.hid hl
  have cC := fun (W : World) (h : Lies W bl off L) => clone_some bl off cap L W h hpos hlen
  have F0 : FW ((w.alloc (.cells #[.int .i64 a, .int .i64 b, .int .i64 c, .slice (some ⟨bl, off, none⟩) L.length cap] 25)).alloc (.cells #[.int .i64 0, .int .i64 0, .int .i64 0, .slice none 0 0] 25)) w.heap.size a b c (.slice (some ⟨bl, off, none⟩) L.length cap) := FW.n2a
  have R0 : FW ((w.alloc (.cells #[.int .i64 a, .int .i64 b, .int .i64 c, .slice (some ⟨bl, off, none⟩) L.length cap] 25)).alloc (.cells #[.int .i64 0, .int .i64 0, .int .i64 0, .slice none 0 0] 25)) (w.heap.size + 1) 0 0 0 (.slice none 0 0) := FW.n2b
  have RR := Lib.hid R0
  have BW : Below w.heap.size w ((w.alloc (.cells #[.int .i64 a, .int .i64 b, .int .i64 c, .slice (some ⟨bl, off, none⟩) L.length cap] 25)).alloc (.cells #[.int .i64 0, .int .i64 0, .int .i64 0, .slice none 0 0] 25)) := ba2
  clear hl R0
  go_enter Tryz.func47, Tryz.ntmps47
  go_upto_region 1 with (fail)
  generalize (w.alloc (.cells #[.int .i64 a, .int .i64 b, .int .i64 c, .slice (some ⟨bl, off, none⟩) L.length cap] 25)).alloc (.cells #[.int .i64 0, .int .i64 0, .int .i64 0, .slice none 0 0] 25) = W0 at *
  obtain ⟨f0, f1, f2, f3, ff, fl⟩ := F0
  have BWs := BW.size
  have BD : Below w.heap.size w W0.drew := by repeat (first | (with_reducible exact Below.refl _ _) | (with_reducible refine Below.setCell ?_ ?_ _) | (with_reducible refine Below.drew ?_) | (with_reducible refine Below.alloc ?_ ?_ _) | (with_reducible refine Below.trans ?_ (Below.mono BW ?_)) | (with_reducible exact BW.size) | omega | (simp <;> omega) | (simp <;> (have s := BW.size; omega)) | (have s0 := BW.size; (try simp at s0); (try simp); omega))
  have K5 : Hid (∀ w' : World, Below W0.heap.size W0 w' → (w'.cell? ⟨w.heap.size, 0, none⟩ = some (.int .i64 a) ∧ w'.cell? ⟨w.heap.size, 1, none⟩ = some (.int .i64 b) ∧ w'.cell? ⟨w.heap.size, 2, none⟩ = some (.int .i64 c) ∧ w'.cell? ⟨w.heap.size, 3, none⟩ = some (.slice (some ⟨bl, off, none⟩) L.length cap))) := Lib.hid (fun w' h => ⟨held_belowG h f0, held_belowG h f1, held_belowG h f2, held_belowG h f3⟩)
  go_wp2_with (fail)
  go_region_held3 (fun w' => (w'.cell? ⟨w.heap.size, 0, none⟩ = some (.int .i64 a) ∧ w'.cell? ⟨w.heap.size, 1, none⟩ = some (.int .i64 b) ∧ w'.cell? ⟨w.heap.size, 2, none⟩ = some (.int .i64 c) ∧ w'.cell? ⟨w.heap.size, 3, none⟩ = some (.slice (some ⟨bl, off, none⟩) L.length cap)))
    (first | (with_reducible exact K5.out _ B5) | (with_reducible exact K5.out _ (Below.refl _ _)) | go_keep)
    (first | ((with_reducible refine (cC _ (H.out.later BD)).mono ?_); rintro e z5 ⟨g, k, rfl, LB, hg, hw5⟩; have B5 : Below W0.heap.size W0 z5 := belDG hw5; obtain ⟨d0, d1, d2, d3, df, dl⟩ := RR.out.later B5; have HLB := Lib.hid LB; clear LB))
  go_wp2
  have G1 := grown_setCells (w.heap.size + 1) [.int .i64 a, .int .i64 b, .int .i64 c, .slice (some ⟨g, 0, none⟩) L.length k] 0 z5
  have hgs : w.heap.size + 1 < g := by have := RR.out.lt; have : W0.heap.size ≤ g := hg; omega
  have B6 := BW.trans (B5.mono BW.size)
  refine bodyPost_ret (v := .agg #[.int .i64 a, .int .i64 b, .int .i64 c, .slice (some ⟨g, 0, none⟩) L.length k]) ?_ rfl ⟨⟨g, k, rfl, HLB.out.grown G1 (by simp; omega), by omega⟩, B6.grown G1 B6.size (fun j hj => by cases hj; omega)⟩
  simp [results, Tryz.results47, go_sem, d0, d1, d2, d3, dl]
end Go.Proofs.YtpfhjdmgkckjfaaGreatDoor

namespace Go.Proofs.YtpfhjdmgkckjfaaGreatDoor
set_option linter.unusedVariables false
set_option linter.unusedSimpArgs false
set_option maxRecDepth 1000000
open Go.RowKit
open Um Tm Cm

/-- the value that a draw leads to -/
noncomputable def chs (l : List Int) (d : Int) : Nat := Classical.epsilon (Ch l d)
theorem chs_ch {l : List Int} {d : Int} (h0 : 0 ≤ d) (h1 : d < psum l l.length) : Ch l d (chs l d) := Classical.epsilon_spec (Ch_ex h0 h1)
/-- the number of a small unit -/
noncomputable def nmb (x : Q) : Nat := Classical.epsilon fun k : Nat => k < 24 ∧ x = small k
theorem nmb_sm {x : Q} (h : Sm x) : nmb x < 24 ∧ x = small (nmb x : Nat) := Classical.epsilon_spec (p := fun k : Nat => k < 24 ∧ x = small k) h
/-- the weights of a link of a field that is swept -/
def swW (a b c : Int) (ws : List Int) (P : List Q) (k : Nat) : List Int := wsK a b c P ws k (thr a b c k) 24
noncomputable def swD (a b c : Int) (ws : List Int) (p : List Q × Int) (k : Nat) : Int := drw p.2 (psum (swW a b c ws p.1 k) 24)
noncomputable def swV (a b c : Int) (ws : List Int) (p : List Q × Int) (k : Nat) : Nat := chs (swW a b c ws p.1 k) (swD a b c ws p k)
/-- the field and the seed behind the first links of a sweep -/
noncomputable def swS (a b c : Int) (ws : List Int) (L : List Q) (s : Int) : Nat → List Q × Int
  | 0 => (L, s)
  | k + 1 => ((swS a b c ws L s k).1.set k (small (swV a b c ws (swS a b c ws L s k) k : Nat)), adv (swS a b c ws L s k).2)
/-- a move -/
noncomputable def mvc (a b c : Int) (ws : List Int) (p : List Q × Int) (k : Nat) : List Int := [(k : Int), (nmb (lk p.1 k) : Int), (swV a b c ws p k : Int), swD a b c ws p k]
/-- the first moves -/
noncomputable def mvs (a b c : Int) (ws : List Int) (L : List Q) (s : Int) (n : Nat) : List Int := (List.range n).flatMap fun k => mvc a b c ws (swS a b c ws L s k) k
theorem mvs_succ (a b c : Int) (ws : List Int) (L : List Q) (s : Int) (n : Nat) : mvs a b c ws L s (n + 1) = mvs a b c ws L s n ++ mvc a b c ws (swS a b c ws L s n) n := by
  unfold mvs
  rw [List.range_succ, List.flatMap_append]
  simp
theorem mvs_len (a b c : Int) (ws : List Int) (L : List Q) (s : Int) : ∀ n, (mvs a b c ws L s n).length = n * 4
  | 0 => rfl
  | n + 1 => by rw [mvs_succ, List.length_append, mvs_len a b c ws L s n]; simp [mvc]; omega
theorem sm_set5 {L : List Q} {u : Q} {n : Nat} (hL : ∀ x ∈ L, Sm x) (hu : Sm u) : ∀ x ∈ L.set n u, Sm x := fun x hx => by
  rcases List.mem_or_eq_of_mem_set hx with h | h
  · exact hL x h
  · rw [h]; exact hu
/-- what holds at each step -/
structure SwI (a b c : Int) (P : List Q) (s : Int) (n : Nat) : Prop where
  f : SmF a b c P
  s : IsSeed s
  n : P.length = n
theorem swI_step {a b c : Int} {ws : List Int} {P : List Q} {s : Int} {n k : Nat} (h : SwI a b c P s n) (hw : WOk ws) (hk : k < n) : WL (swW a b c ws P k) ∧ 1 ≤ psum (swW a b c ws P k) 24 ∧ 0 ≤ swD a b c ws (P, s) k ∧ swD a b c ws (P, s) k < psum (swW a b c ws P k) 24 ∧ Ch (swW a b c ws P k) (swD a b c ws (P, s) k) (swV a b c ws (P, s) k) ∧ swV a b c ws (P, s) k < 24 ∧ nmb (lk P k) < 24 ∧ P[k]? = some (small (nmb (lk P k) : Nat)) ∧ SwI a b c (P.set k (small (swV a b c ws (P, s) k : Nat))) (adv s) n := by
  have hl : (k : Int) < 3 * (a * b * c) := by have := h.f.n; have := h.n; omega
  have hWL : WL (swW a b c ws P k) := WL_of h.f hw (by omega) hl
  have h0 : (swW a b c ws P k)[0]? = some _ := List.getElem?_eq_getElem (by rw [hWL.n]; omega)
  have hs0 := psum_succ h0
  rw [psum_zero] at hs0
  have h1 := hWL.lo _ (List.mem_of_getElem? h0)
  have hmono := psum_mono hWL.lo 1 24 (by omega) (by rw [hWL.n]; omega)
  simp only [Nat.zero_add] at hs0
  have hT : 1 ≤ psum (swW a b c ws P k) 24 := by omega
  obtain ⟨d0, d1⟩ := drw_rng (s := s) (n := psum (swW a b c ws P k) 24) (by omega)
  have hch := chs_ch (l := swW a b c ws P k) (d := swD a b c ws (P, s) k) d0 (by rw [hWL.n]; exact d1)
  have hv : swV a b c ws (P, s) k < 24 := by have := hch.1; rw [hWL.n] at this; exact this
  have hkl : k < P.length := by rw [h.n]; exact hk
  have hlk : P[k]? = some (lk P k) := by
    have := lk_get (L := P) (i := (k : Int)) (by omega) (by omega)
    simpa using this
  have hsm := nmb_sm (h.f.s (lk P k) (List.mem_of_getElem? hlk))
  refine ⟨hWL, hT, d0, d1, hch, hv, hsm.1, by rw [hlk]; exact congrArg some hsm.2, ⟨⟨h.f.z, by rw [List.length_set]; exact h.f.n, sm_set5 h.f.s ⟨_, hv, rfl⟩⟩, adv_seed h.s, by rw [List.length_set]; exact h.n⟩⟩
theorem swI_all {a b c : Int} {ws : List Int} {L : List Q} {s : Int} {n : Nat} (h : SwI a b c L s n) (hw : WOk ws) : ∀ k, k ≤ n → SwI a b c (swS a b c ws L s k).1 (swS a b c ws L s k).2 n
  | 0, _ => h
  | k + 1, hk => by
    have := (swI_step (swI_all h hw k (by omega)) hw (show k < n by omega)).2.2.2.2.2.2.2.2
    exact this
/-! ### what a call leaves as it was that draws -/
theorem grown_later {w w1 w2 : World} {row : Option Nat} (h : w.grownBy w1 row) (hb : Below w.heap.size w1 w2) : w.grownBy w2 row :=
  ⟨hb.os.trans h.os, hb.tape.trans h.tape, hb.output.trans h.output, Nat.le_trans h.size hb.size, fun k hk hne => (hb.block k hk).trans (h.block k hk hne)⟩
theorem below_grown {w w1 : World} {row : Option Nat} (h : Below w.heap.size w w1) : w.grownBy w1 row :=
  ⟨h.os, h.tape, h.output, h.size, fun k hk _ => h.block k hk⟩
theorem grown_trans {w w1 w2 : World} {row : Option Nat} (h : w.grownBy w1 row) (h2 : w1.grownBy w2 row) : w.grownBy w2 row :=
  ⟨h2.os.trans h.os, h2.tape.trans h.tape, h2.output.trans h.output, Nat.le_trans h.size h2.size, fun k hk hne => (h2.block k (Nat.lt_of_lt_of_le hk h.size) hne).trans (h.block k hk hne)⟩
end Go.Proofs.YtpfhjdmgkckjfaaGreatDoor
