/- The document's error of Solve.
Conditions: the lists lie in memory as it is written at each theorem. -/
import Derived.Test.YtojmagooapjohaaFermD
import Derived.Test.YtojmagooapjohaaChcC
import Derived.Test.YtojmagooapjohaaSlwC
namespace Go.Proofs.Ytojmagooapjohaa
set_option linter.unusedVariables false
set_option linter.unusedSimpArgs false
set_option maxRecDepth 1000000
open Go.RowKit
open Um Tm Fm

theorem so_vec {m : Nat} {M : List Sp} {r0 ma r1 r : Int} (h1 : ms1 m M r0 ma r1) (h : r1 = 0) (h2 : (AllE 1048576 M ∧ r = 0) ∨ (¬ AllE 1048576 M ∧ r = 1)) : vecR m M 1048576 r := by
  subst h
  have hl := (ms1_ok h1).2.1
  rcases h2 with ⟨h, rfl⟩ | ⟨h, rfl⟩
  · exact .inr (.inl ⟨hl, h, rfl⟩)
  · exact .inr (.inr ⟨hl, h, rfl⟩)
set_option maxHeartbeats 3200000 in
theorem sourced1_any (a b c r0 ma r : Int) (ao po : Option Addr) (cap pc sb : Nat) (L : List Q) (ns : List Int) (M : List Sp) (w : World) (h : LiesO w ao L) (hp : LiesOI w po (fl M)) (hs : w.cell? ⟨sb, 0, none⟩ = some (.slice po M.length pc)) (hr : numsR a b c L ns r0) (hv : soR L.length M r0 ma r) (hlen : L.length ≤ 1000000) (hlm : M.length ≤ 1000000) : Calls Try.prog 60 #[.agg #[.int .i64 a, .int .i64 b, .int .i64 c, .slice ao L.length cap], .int .i64 ma, .slice (some ⟨sb, 0, none⟩) 1 1] w fun e w' => e = .returned (.int .i64 r) ∧ Below w.heap.size w w' := by
  have hsl : sb < w.heap.size := World.block_lt_of_cell? _ _ hs
  have H := Lib.hid h
  have HP := Lib.hid hp
  have HS := Lib.hid (fun (W : World) (hb : Below w.heap.size w W) => (hb.cell (p := ⟨sb, 0, none⟩) hsl).trans hs)
  obtain ⟨r1, h1, hc⟩ := hv
  have c1 : ∀ (W : World), LiesO W ao L → LiesOI W po (fl M) → W.cell? ⟨sb, 0, none⟩ = some (.slice po M.length pc) → Calls Try.prog 101 #[.agg #[.int .i64 a, .int .i64 b, .int .i64 c, .slice ao L.length cap], .int .i64 ma, .slice (some ⟨sb, 0, none⟩) 1 1] W fun e w' => e = .returned (.int .i64 r1) ∧ Below W.heap.size W w' := fun W k1 k2 k3 => massive1_any a b c r0 ma r1 ao po cap pc sb 0 L ns M W k1 k2 k3 hr h1 hlen hlm
  rcases hc with ⟨h2, rfl⟩ | ⟨h2, h3⟩
  · have t1 : (r != 0) = true := by simpa using h2
    clear h hp hs hr h1 h2
    go_enter Try.func60, Try.ntmps60
    go_wp2_with ((with_reducible refine (c1 _ (H.out.later (by repeat (first | (with_reducible exact Below.refl _ _) | (with_reducible refine Below.setCell ?_ ?_ _) | (with_reducible refine Below.drew ?_) | (with_reducible refine Below.alloc ?_ ?_ _) | omega | (simp <;> omega)))) (HP.out.later (by repeat (first | (with_reducible exact Below.refl _ _) | (with_reducible refine Below.setCell ?_ ?_ _) | (with_reducible refine Below.drew ?_) | (with_reducible refine Below.alloc ?_ ?_ _) | omega | (simp <;> omega)))) (HS.out _ (by repeat (first | (with_reducible exact Below.refl _ _) | (with_reducible refine Below.setCell ?_ ?_ _) | (with_reducible refine Below.drew ?_) | (with_reducible refine Below.alloc ?_ ?_ _) | omega | (simp <;> omega))))).mono ?_); clear c1; rintro e w1 ⟨rfl, hw1⟩)
    go_ret
    exact ⟨rfl, by repeat (first | (with_reducible exact Below.refl _ _) | (with_reducible refine Below.setCell ?_ ?_ _) | (with_reducible refine Below.drew ?_) | (with_reducible refine Below.alloc ?_ ?_ _) | (with_reducible refine Below.trans ?_ (Below.mono hw1 ?_)) | (with_reducible exact hw1.size) | omega | (simp <;> omega) | (simp <;> (have s := hw1.size; omega)) | (have s0 := hw1.size; (try simp at s0); (try simp); omega))⟩
  · have hvec := so_vec h1 h2 h3
    subst h2
    have c2 := fun (W : World) (k1 : LiesOI W po (fl M)) => vector_any a b c 1048576 r ao po cap pc L M W k1 (by decide) (by decide) hlm hlen hvec
    clear h hp hs hr h1 h3 hvec
    have kc := @Tail.cell_re
    go_enter Try.func60, Try.ntmps60
    go_wp2_with ((with_reducible refine (c1 _ (H.out.later (by repeat (first | (with_reducible exact Below.refl _ _) | (with_reducible refine Below.setCell ?_ ?_ _) | (with_reducible refine Below.drew ?_) | (with_reducible refine Below.alloc ?_ ?_ _) | omega | (simp <;> omega)))) (HP.out.later (by repeat (first | (with_reducible exact Below.refl _ _) | (with_reducible refine Below.setCell ?_ ?_ _) | (with_reducible refine Below.drew ?_) | (with_reducible refine Below.alloc ?_ ?_ _) | omega | (simp <;> omega)))) (HS.out _ (by repeat (first | (with_reducible exact Below.refl _ _) | (with_reducible refine Below.setCell ?_ ?_ _) | (with_reducible refine Below.drew ?_) | (with_reducible refine Below.alloc ?_ ?_ _) | omega | (simp <;> omega))))).mono ?_); clear c1; rintro e w1 ⟨rfl, hw1⟩; have hc1 := Tail.cells hw1; have zw10 := Nat.lt_of_lt_of_le (n := w.heap.size) (by simp <;> omega) hw1.size)
    have hb1 : Below w.heap.size w w1 := by repeat (first | (with_reducible exact Below.refl _ _) | (with_reducible refine Below.setCell ?_ ?_ _) | (with_reducible refine Below.drew ?_) | (with_reducible refine Below.alloc ?_ ?_ _) | (with_reducible refine Below.trans ?_ (Below.mono hw1 ?_)) | (with_reducible exact hw1.size) | omega | (simp <;> omega) | (simp <;> (have s := hw1.size; omega)) | (have s0 := hw1.size; (try simp at s0); (try simp); omega))
    have HP1 := HP.out.later hb1
    have x1 := HS.out _ hb1
    have x2 : sb < w1.heap.size := Nat.lt_of_lt_of_le hsl hb1.size
    have f0 : w1.cell? ⟨w.heap.size, 0, none⟩ = some (.int .i64 a) := (hc1.1 _ _ (by simp <;> omega)).trans (by simp [go_sem])
    have f1 : w1.cell? ⟨w.heap.size, 1, none⟩ = some (.int .i64 b) := (hc1.1 _ _ (by simp <;> omega)).trans (by simp [go_sem])
    have f2 : w1.cell? ⟨w.heap.size, 2, none⟩ = some (.int .i64 c) := (hc1.1 _ _ (by simp <;> omega)).trans (by simp [go_sem])
    have f3 : w1.cell? ⟨w.heap.size, 3, none⟩ = some (.slice ao L.length cap) := (hc1.1 _ _ (by simp <;> omega)).trans (by simp [go_sem])
    clear hc1 hw1
    have HP1' := Lib.hid HP1
    refine Tail.region_below (by kernel_rfl) (by kernel_rfl) ?_
    repeat (go_big_quiet_step (first | (with_reducible exact Calls.regrown_of (c2 _ (liesOI_re HP1'.out _ _)))))
    refine wpQuiet_nil ?_
    intro w9 hw9
    go_wp2
    go_ret
    exact ⟨rfl, by repeat (first | (with_reducible exact Below.refl _ _) | (with_reducible refine Below.setCell ?_ ?_ _) | (with_reducible refine Below.drew ?_) | (with_reducible refine Below.alloc ?_ ?_ _) | (with_reducible refine Below.trans ?_ (Below.mono hw9 ?_)) | (with_reducible refine Below.trans ?_ (Below.mono hb1 ?_)) | (with_reducible exact hw9.size) | (with_reducible exact hb1.size) | omega | (simp <;> omega) | (simp <;> (have s := hw9.size; omega)) | (simp <;> (have s := hb1.size; omega)) | (have s0 := hw9.size; (try simp at s0); have s1 := hb1.size; (try simp at s1); (try simp); omega))⟩
set_option maxHeartbeats 1600000 in
theorem solveError_any (a b c r0 ma r : Int) (ao po : Option Addr) (cap pc : Nat) (L : List Q) (ns : List Int) (M : List Sp) (w : World) (h : LiesO w ao L) (hp : LiesOI w po (fl M)) (hr : numsR a b c L ns r0) (hv : soR L.length M r0 ma r) (hlen : L.length ≤ 1000000) (hlm : M.length ≤ 1000000) : Calls Try.prog 25 #[.agg #[.int .i64 a, .int .i64 b, .int .i64 c, .slice ao L.length cap], .int .i64 ma, .slice po M.length pc] w fun e w' => e = .returned (.int .i64 r) ∧ Below w.heap.size w w' := by
  have H := Lib.hid h
  have HP := Lib.hid hp
  have c1 : ∀ (W : World) (sb : Nat), LiesO W ao L → LiesOI W po (fl M) → W.cell? ⟨sb, 0, none⟩ = some (.slice po M.length pc) → Calls Try.prog 60 #[.agg #[.int .i64 a, .int .i64 b, .int .i64 c, .slice ao L.length cap], .int .i64 ma, .slice (some ⟨sb, 0, none⟩) 1 1] W fun e w' => e = .returned (.int .i64 r) ∧ Below W.heap.size W w' := fun W sb k1 k2 k3 => sourced1_any a b c r0 ma r ao po cap pc sb L ns M W k1 k2 k3 hr hv hlen hlm
  clear h hp hr hv
  go_enter Try.func25, Try.ntmps25
  go_wp2_with ((with_reducible refine (c1 _ _ (H.out.later (by repeat (first | (with_reducible exact Below.refl _ _) | (with_reducible refine Below.setCell ?_ ?_ _) | (with_reducible refine Below.drew ?_) | (with_reducible refine Below.alloc ?_ ?_ _) | omega | (simp <;> omega)))) (HP.out.later (by repeat (first | (with_reducible exact Below.refl _ _) | (with_reducible refine Below.setCell ?_ ?_ _) | (with_reducible refine Below.drew ?_) | (with_reducible refine Below.alloc ?_ ?_ _) | omega | (simp <;> omega)))) (by simp [go_sem])).mono ?_); clear c1; rintro e w1 ⟨rfl, hw1⟩)
  go_ret
  exact ⟨rfl, by repeat (first | (with_reducible exact Below.refl _ _) | (with_reducible refine Below.setCell ?_ ?_ _) | (with_reducible refine Below.drew ?_) | (with_reducible refine Below.alloc ?_ ?_ _) | (with_reducible refine Below.trans ?_ (Below.mono hw1 ?_)) | (with_reducible exact hw1.size) | omega | (simp <;> omega) | (simp <;> (have s := hw1.size; omega)) | (have s0 := hw1.size; (try simp at s0); (try simp); omega))⟩
/-! ### the solution is accepted -/
theorem two_four : ∀ k ∈ List.range 24, dot4 (tw (small (k : Nat))) (tw (small (k : Nat))) = 4 := by decide +kernel
theorem nums_one4 {a b c : Int} {L : List Q} {ns : List Int} (h : numsR a b c L ns 0) : One4 L := fun x hx => by
  rcases h with ⟨_, h, _⟩ | ⟨_, ⟨hn, _⟩ | ⟨_, h⟩⟩
  · exact absurd rfl h
  · rcases hn with ⟨_, hn⟩ | ⟨h, _⟩
    · obtain ⟨i, hi, rfl⟩ := List.getElem_of_mem hx
      obtain ⟨m, -, hm⟩ := hn.2 i _ hi (List.getElem?_eq_getElem hi)
      rcases hm with ⟨k, hk, he, -, -, -⟩ | ⟨-, -, h⟩
      · rw [← he]; exact two_four k (List.mem_range.2 hk)
      · cases h
    · cases h
  · cases h
theorem alle_of {n : Nat} {M : List Sp} {K m : Int} (hn : M.length = n) (h : ∀ s, s < n → Bd K (at0 M s)) (hK : K ≤ m) : AllE m M := fun i x hx => by
  have hi := (List.getElem?_eq_some_iff.1 hx).1
  have := bd_le (h i (by omega)) hK
  rw [at0_of hx] at this
  exact this
theorem sol_good {a b c ma : Int} {n : Nat} {L : List Q} {ns : List Int} {M X : List Sp} (hr : numsR a b c L ns 0) (hF : Fld7 a b c L n) (hv : ms1 L.length M 0 ma 0) (hs : AllE 1048576 M) (hI : Inv (4 * ma) n (arms a b c L L.length) (tab n (fun s => smS 65536 (at0 M s))) X) (hc : ∀ s, s < n → at0 (cor ma n (arms a b c L L.length) (tab n (fun s => smS 65536 (at0 M s))) X) s = zs) :
    AllE mE (rdL n X) ∧ rmR L.length (rdL n X) M 0 ma 0 ∧ chR (remL ma n (arms a b c L L.length) (rdL n X) M) ((4 * ma + 16) * (4 * ma + 16) * 4 * (a * b * c)) 0 := by
  have hpos := hF.pos
  have hll := hF.l
  have hMl := (ms1_ok hv).2.1
  have hma := (ms1_ok hv).2.2.2
  have hn : M.length = n := by omega
  have hO := nums_one4 hr
  have hm1 : 1 ≤ ma ∧ ma ≤ 10 := hma
  rw [hll] at hI hc ⊢
  obtain ⟨-, bm⟩ := src_mul hn hs
  have b1 := (inv_bounds hF.z hF.e hO (by omega) (by omega) (tab_len _ _) (src_sq hpos.2 bm) hI).2.2.1
  have b2 : ∀ s, s < n → Bd 4194305 (at0 (rdL n X) s) := fun s hs => by
    unfold rdL; rw [at0_tab _ hs]; exact rd_bd (b1 s hs)
  have hA : AllE mE (rdL n X) := alle_of (rdL_len n X) b2 (by decide)
  have e0 := end_near hF.z hF.e hO (isM_cases hma) hn hI.l hc
  have hR : remL ma n (arms a b c L (n * 3)) (rdL n X) M = lfL (4 * ma) n (arms a b c L (n * 3)) M (rdL n X) := by
    have s1 := sq_of_bd n b2
    have s2 := op_up hF.z hF.e hO 1 (4 * ma) (by decide) (rdL n X)
    have s3 : sqF (at0 (opT 1 (4 * ma) n (arms a b c L (n * 3)) (rdL n X))) n = sqF (opE 1 (4 * ma) (arms a b c L (n * 3)) (at0 (rdL n X))) n := sq_tab _ _
    have s4 : (4 * ma * (4 * ma) + 144) * sqF (at0 (rdL n X)) n ≤ 1744 * sqF (at0 (rdL n X)) n := Int.mul_le_mul_of_nonneg_right (by
      have : 4 * ma * (4 * ma) ≤ 40 * 40 := Int.mul_le_mul (by omega) (by omega) (by omega) (by omega)
      omega) (sqF_nn _ _)
    have s5 : (n : Int) * (4 * (4194305 * 4194305)) ≤ 16 * (4 * (4194305 * 4194305)) := Int.mul_le_mul_of_nonneg_right (by omega) (by decide)
    exact prog_left hn (src_bd hn hs) (by decide) (fun s hs => bd_of_sq (K := 2147483648) (by decide) (by omega) hs) (by decide)
  rw [hR]
  refine ⟨hA, ?_, .inl ⟨?_, ?_, rfl⟩⟩
  · refine ⟨0, ⟨0, .inr ⟨rfl, .inr (.inl ⟨by rw [rdL_len], hA, rfl⟩)⟩, .inr ⟨rfl, by rw [← hll]; exact hv⟩⟩, .inr ⟨rfl, .inl ⟨hs, rfl⟩⟩⟩
  · refine alle_of (lfL_len _ _ _ _ _) (fun s hs => bd_of_sq (K := 449) (by decide) (Int.le_trans e0 ?_) hs) (by decide)
    rcases isM_cases hma with e | e | e | e | e | e | e | e | e | e <;> subst e <;> omega
  · have hd : dotL (lfL (4 * ma) n (arms a b c L (n * 3)) M (rdL n X)) (lfL (4 * ma) n (arms a b c L (n * 3)) M (rdL n X)) = sqF (at0 (lfL (4 * ma) n (arms a b c L (n * 3)) M (rdL n X))) n := by
      unfold dotL; rw [lfL_len, dotK_sq]
    have h0 := sqF_nn (at0 (lfL (4 * ma) n (arms a b c L (n * 3)) M (rdL n X))) n
    rw [hd, ← hF.e, w_in (by omega) (by rcases isM_cases hma with e | e | e | e | e | e | e | e | e | e <;> subst e <;> omega)]
    exact e0
end Go.Proofs.Ytojmagooapjohaa
