/- Sums of loops are examined, as the program does.
Conditions: those written at each theorem. -/
import Derived.Test.YtjidbajcnomceaaGreatRowsC
import Derived.Test.YtjidbajcnomceaaGreatLoopB
namespace Go.Proofs.YtjidbajcnomceaaGreat
set_option linter.unusedVariables false
set_option linter.unusedSimpArgs false
set_option maxRecDepth 1000000
open Go.RowKit
open Um Tm Lm

theorem isCoef_yes (c : Int) (w : World) (h : okC c) : Calls Tryz.prog 81 #[.int .i64 c] w fun e w' => e = .returned (.bool true) ∧ Below w.heap.size w w' := by
  obtain ⟨h1, h2⟩ := h
  go_enter Tryz.func81, Tryz.ntmps81
  go_wp2
  go_ret
  exact ⟨rfl, Below.refl _ _⟩
theorem isCoef_no (c : Int) (w : World) (h : ¬ okC c) : Calls Tryz.prog 81 #[.int .i64 c] w fun e w' => e = .returned (.bool false) ∧ Below w.heap.size w w' := by
  unfold okC at h
  by_cases h1 : -1000 ≤ c
  · have h2 : ¬ c ≤ 1000 := fun e => h ⟨h1, e⟩
    clear h
    go_enter Tryz.func81, Tryz.ntmps81
    go_wp2
    go_ret
    exact ⟨rfl, Below.refl _ _⟩
  · clear h
    go_enter Tryz.func81, Tryz.ntmps81
    go_wp2
    go_ret
    exact ⟨rfl, Below.refl _ _⟩

set_option maxHeartbeats 3200000 in
theorem validateTerms_any (ao : Option Addr) (cap : Nat) (l : List E) (w : World) (h : Trs w ao l) (hl : l.length ≤ 1000000) (hp : ∀ e ∈ l, e.p.length ≤ 1000000) : Calls Tryz.prog 52 #[.slice ao l.length cap] w fun e w' => e = .returned (.int .i64 (vT (tm l))) ∧ Below w.heap.size w w' := by
  have H := Lib.hid h
  have HP := Lib.hid hp
  clear h hp
  by_cases h40 : 40 < l.length
  · have hv : vT (tm l) = 3 := by unfold vT; rw [tm_len, if_pos h40]
    have h41 : (40 : Int) < (l.length : Int) := by omega
    rw [hv]
    clear hv h40
    go_enter Tryz.func52, Tryz.ntmps52
    go_wp2
    go_ret
    exact ⟨rfl, by repeat (first | (with_reducible exact Below.refl _ _) | (with_reducible refine Below.setCell ?_ ?_ _) | (with_reducible refine Below.drew ?_) | (with_reducible refine Below.alloc ?_ ?_ _) | omega | (simp <;> omega))⟩
  · have hv : vT (tm l) = tes (tm l) := by unfold vT; rw [tm_len, if_neg h40]
    rw [hv]
    obtain ⟨r, hR⟩ : ∃ r, r = tes (tm l) := ⟨_, rfl⟩
    rw [← hR]
    have HR0 : Hid (r = tes ((tm l).drop 0)) := Lib.hid (by simpa using hR)
    have h41 : ¬ (40 : Int) < (l.length : Int) := by omega
    clear hv hR h40
    go_enter Tryz.func52, Tryz.ntmps52
    go_wp2
    go_loopw [4, 5, 6, 12] (fun _ _ _ q wr => ∃ k : Nat, k ≤ l.length ∧ q = .int .i64 k ∧ Hid (r = tes ((tm l).drop k)) ∧ Below w.heap.size w wr) (fun _ _ _ q _ => l.length - (intOf q).toNat)
    case atStart => exact ⟨0, by omega, rfl, HR0, Below.refl _ _⟩
    case round =>
      obtain ⟨k, hk, rfl, HR, hb⟩ := hrel
      clear HR0
      by_cases hlt : k < l.length
      · have i1 : (k : Int) < (l.length : Int) := by omega
        obtain ⟨b, off, rfl, x0, x1, hpl⟩ := (H.out.later hb).at_ hlt
        have hd := tes_drop (tm l) k (by rw [tm_len]; exact hlt)
        have hg : (tm l)[k]'(by rw [tm_len]; exact hlt) = (l[k].c, l[k].p) := by simp [tm]
        rw [hg] at hd
        have hpe := HP.out _ (List.getElem_mem hlt)
        clear hg
        generalize l[k] = x at *
        obtain ⟨c, p, pa, pk⟩ := x
        simp only at *
        have HD := Lib.hid hd
        have HL := Lib.hid hpl
        clear hd hpl
        by_cases hc : okC c
        · have cC := fun W => isCoef_yes c W hc
          by_cases hpp : pe p = 0
          · have hx := pe_ok hpp
            have cR := fun W h => reduce_new pa pk p W h hx.2 hx.1
            have HN : Hid (r = tes ((tm l).drop (k + 1))) := Lib.hid (by rw [HR.out, HD.out]; unfold te; rw [if_pos hc, if_pos hpp])
            clear hc hpp hx HD HR
            go_wp2_with (first
              | ((with_reducible refine (cC _).mono ?_); clear cC; rintro e w1 ⟨rfl, hw1⟩; have hc1 := Tail.cells hw1; have z1 := Nat.lt_of_lt_of_le (n := wr.heap.size) (by simp) hw1.size)
              | ((with_reducible refine (cR _ (HL.out.later (by repeat (first | (with_reducible exact Below.refl _ _) | (with_reducible refine Below.setCell ?_ ?_ _) | (with_reducible refine Below.drew ?_) | (with_reducible refine Below.alloc ?_ ?_ _) | (with_reducible refine Below.trans ?_ (Below.mono hw1 ?_)) | (with_reducible exact hw1.size) | omega | (simp <;> omega) | (simp <;> (have s := hw1.size; omega)) | (have s0 := hw1.size; (try simp at s0); (try simp); omega))))).mono ?_); clear cR; rintro e w2 ⟨a2, c2, rfl, -, -, hw2⟩))
            go_roundw
            case rel => exact ⟨k + 1, by omega, by go_num, HN, by repeat (first | (with_reducible exact Below.refl _ _) | (with_reducible refine Below.setCell ?_ ?_ _) | (with_reducible refine Below.drew ?_) | (with_reducible refine Below.alloc ?_ ?_ _) | (with_reducible refine Below.trans ?_ (Below.mono hw2 ?_)) | (with_reducible refine Below.trans ?_ (Below.mono hw1 ?_)) | (with_reducible refine Below.trans ?_ (Below.mono hb ?_)) | (with_reducible exact hw2.size) | (with_reducible exact hw1.size) | (with_reducible exact hb.size) | omega | (simp <;> omega) | (simp <;> (have s := hw2.size; omega)) | (simp <;> (have s := hw1.size; omega)) | (simp <;> (have s := hb.size; omega)) | (have s0 := hw2.size; (try simp at s0); have s1 := hw1.size; (try simp at s1); have s2 := hb.size; (try simp at s2); (try simp); omega))⟩
            case measure => simp [intOf]; omega
          · have cR := fun W h => reduce_bad pa pk p (pe p) W h (pe_R p) hpp hpe
            have HN : r = pe p := by rw [HR.out, HD.out]; unfold te; rw [if_pos hc, if_neg hpp]
            rw [← HN] at cR hpp
            have q1 : (r != 0) = true := by simpa using hpp
            clear hc hpp HD HR HN
            go_wp2_with (first
              | ((with_reducible refine (cC _).mono ?_); clear cC; rintro e w1 ⟨rfl, hw1⟩; have hc1 := Tail.cells hw1; have z1 := Nat.lt_of_lt_of_le (n := wr.heap.size) (by simp) hw1.size)
              | ((with_reducible refine (cR _ (HL.out.later (by repeat (first | (with_reducible exact Below.refl _ _) | (with_reducible refine Below.setCell ?_ ?_ _) | (with_reducible refine Below.drew ?_) | (with_reducible refine Below.alloc ?_ ?_ _) | (with_reducible refine Below.trans ?_ (Below.mono hw1 ?_)) | (with_reducible exact hw1.size) | omega | (simp <;> omega) | (simp <;> (have s := hw1.size; omega)) | (have s0 := hw1.size; (try simp at s0); (try simp); omega))))).mono ?_); clear cR; rintro e w2 ⟨rfl, hw2⟩))
            go_ret
            exact ⟨rfl, by repeat (first | (with_reducible exact Below.refl _ _) | (with_reducible refine Below.setCell ?_ ?_ _) | (with_reducible refine Below.drew ?_) | (with_reducible refine Below.alloc ?_ ?_ _) | (with_reducible refine Below.trans ?_ (Below.mono hw2 ?_)) | (with_reducible refine Below.trans ?_ (Below.mono hw1 ?_)) | (with_reducible refine Below.trans ?_ (Below.mono hb ?_)) | (with_reducible exact hw2.size) | (with_reducible exact hw1.size) | (with_reducible exact hb.size) | omega | (simp <;> omega) | (simp <;> (have s := hw2.size; omega)) | (simp <;> (have s := hw1.size; omega)) | (simp <;> (have s := hb.size; omega)) | (have s0 := hw2.size; (try simp at s0); have s1 := hw1.size; (try simp at s1); have s2 := hb.size; (try simp at s2); (try simp); omega))⟩
        · have cC := fun W => isCoef_no c W hc
          have HN : r = 3 := by rw [HR.out, HD.out]; unfold te; rw [if_neg hc, if_neg (by omega)]
          subst HN
          clear hc HD HR
          go_wp2_with ((with_reducible refine (cC _).mono ?_); clear cC; rintro e w1 ⟨rfl, hw1⟩)
          go_ret
          exact ⟨rfl, by repeat (first | (with_reducible exact Below.refl _ _) | (with_reducible refine Below.setCell ?_ ?_ _) | (with_reducible refine Below.drew ?_) | (with_reducible refine Below.alloc ?_ ?_ _) | (with_reducible refine Below.trans ?_ (Below.mono hw1 ?_)) | (with_reducible refine Below.trans ?_ (Below.mono hb ?_)) | (with_reducible exact hw1.size) | (with_reducible exact hb.size) | omega | (simp <;> omega) | (simp <;> (have s := hw1.size; omega)) | (simp <;> (have s := hb.size; omega)) | (have s0 := hw1.size; (try simp at s0); have s1 := hb.size; (try simp at s1); (try simp); omega))⟩
      · obtain rfl : l.length = k := by omega
        have HN : r = 0 := by rw [HR.out, List.drop_of_length_le (by rw [tm_len]; omega)]; rfl
        subst HN
        clear HR
        go_wp2
        go_ret
        exact ⟨rfl, by repeat (first | (with_reducible exact Below.refl _ _) | (with_reducible refine Below.setCell ?_ ?_ _) | (with_reducible refine Below.drew ?_) | (with_reducible refine Below.alloc ?_ ?_ _) | (with_reducible refine Below.trans ?_ (Below.mono hb ?_)) | (with_reducible exact hb.size) | omega | (simp <;> omega) | (simp <;> (have s := hb.size; omega)) | (have s0 := hb.size; (try simp at s0); (try simp); omega))⟩

/-- what a sum is refused for beyond the limits -/
theorem limited_any (B : Nat) (ao : Option Addr) (cap : Nat) (l : List E) (w : World) (h : TrsN w B ao l) (hl : l.length ≤ 1000000) (hp : ∀ e ∈ l, e.p.length ≤ 1000000) : Calls Tryz.prog 87 #[.slice ao l.length cap] w fun e w' => (if vT (tm l) = 0 then e = .returned (.tuple #[.slice ao l.length cap, .int .i64 0]) else e = .returned (.tuple #[.slice none 0 0, .int .i64 3])) ∧ TrsN w' B ao l ∧ Below w.heap.size w w' := by
  have cV := fun W h => validateTerms_any ao cap l W h hl hp
  have H := Lib.hid h
  clear h hp
  by_cases hv : vT (tm l) = 0
  · simp only [if_pos hv]
    rw [hv] at cV
    clear hv
    go_enter Tryz.func87, Tryz.ntmps87
    go_wp2_with ((with_reducible refine (cV _ H.out.o).mono ?_); clear cV; rintro e w1 ⟨rfl, hw1⟩)
    go_ret2
    exact ⟨rfl, H.out.later hw1, by repeat (first | (with_reducible exact Below.refl _ _) | (with_reducible refine Below.setCell ?_ ?_ _) | (with_reducible refine Below.drew ?_) | (with_reducible refine Below.alloc ?_ ?_ _) | (with_reducible refine Below.trans ?_ (Below.mono hw1 ?_)) | (with_reducible exact hw1.size) | omega | (simp <;> omega) | (simp <;> (have s := hw1.size; omega)) | (have s0 := hw1.size; (try simp at s0); (try simp); omega))⟩
  · simp only [if_neg hv]
    generalize vT (tm l) = r at *
    have q1 : (r != 0) = true := by simpa using hv
    clear hv
    go_enter Tryz.func87, Tryz.ntmps87
    go_wp2_with ((with_reducible refine (cV _ H.out.o).mono ?_); clear cV; rintro e w1 ⟨rfl, hw1⟩)
    go_ret2
    exact ⟨rfl, H.out.later hw1, by repeat (first | (with_reducible exact Below.refl _ _) | (with_reducible refine Below.setCell ?_ ?_ _) | (with_reducible refine Below.drew ?_) | (with_reducible refine Below.alloc ?_ ?_ _) | (with_reducible refine Below.trans ?_ (Below.mono hw1 ?_)) | (with_reducible exact hw1.size) | omega | (simp <;> omega) | (simp <;> (have s := hw1.size; omega)) | (have s0 := hw1.size; (try simp at s0); (try simp); omega))⟩
end Go.Proofs.YtjidbajcnomceaaGreat
