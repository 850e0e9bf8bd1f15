/- Sums of loops as the document reckons with them: how paths are compared, plain paths, what is refused.
Conditions: those written at each theorem. -/
import Derived.Test.YtjidbajcnomceaaGreatLooC
namespace Go.Proofs.YtjidbajcnomceaaGreat
set_option linter.unusedVariables false
set_option linter.unusedSimpArgs false
set_option maxRecDepth 1000000
open Go.RowKit
open Um Tm Lm

theorem within3_any (n lo hi : Int) (w : World) (r : Bool) (h : (lo ≤ n ∧ n ≤ hi ∧ r = true) ∨ (¬ (lo ≤ n ∧ n ≤ hi) ∧ r = false)) :
    Calls Tryz.prog 46 #[.int .i64 n, .int .i64 lo, .int .i64 hi] w fun e w' => e = .returned (.bool r) ∧ w = w' := by
  rcases h with ⟨a, b, rfl⟩ | ⟨h, rfl⟩
  · go_enter Tryz.func46, Tryz.ntmps46
    go_wp2
    go_ret
    exact ⟨rfl, rfl⟩
  · by_cases a : lo ≤ n
    · have b : ¬ n ≤ hi := fun b => h ⟨a, b⟩
      clear h
      go_enter Tryz.func46, Tryz.ntmps46
      go_wp2
      go_ret
      exact ⟨rfl, rfl⟩
    · clear h
      go_enter Tryz.func46, Tryz.ntmps46
      go_wp2
      go_ret
      exact ⟨rfl, rfl⟩
set_option maxHeartbeats 3200000 in
theorem refVT_any (ao : Option Addr) (cap : Nat) (l : List E) (w : World) (h : Trs w ao l) (hl : l.length ≤ 1000000) (hp : ∀ e ∈ l, e.p.length ≤ 1000000) : Calls Tryz.prog 55 #[.slice ao l.length cap] w fun e w' => e = .returned (.int .i64 (vT (tm l))) ∧ Below w.heap.size w w' := by
  have H := Lib.hid h
  have HP := Lib.hid hp
  clear h hp
  by_cases h40 : 40 < l.length
  · have hv : vT (tm l) = 3 := by unfold vT; rw [tm_len, if_pos h40]
    have h41 : (40 : Int) < (l.length : Int) := by omega
    rw [hv]
    clear hv h40
    go_enter Tryz.func55, Tryz.ntmps55
    go_wp2
    go_ret
    exact ⟨rfl, by repeat (first | (with_reducible exact Below.refl _ _) | (with_reducible refine Below.setCell ?_ ?_ _) | (with_reducible refine Below.drew ?_) | (with_reducible refine Below.alloc ?_ ?_ _) | omega | (simp <;> omega))⟩
  · have hv : vT (tm l) = tes (tm l) := by unfold vT; rw [tm_len, if_neg h40]
    rw [hv]
    obtain ⟨r, hR⟩ : ∃ r, r = tes (tm l) := ⟨_, rfl⟩
    rw [← hR]
    have HR0 : Hid (r = tes ((tm l).drop 0)) := Lib.hid (by simpa using hR)
    have h41 : ¬ (40 : Int) < (l.length : Int) := by omega
    clear hv hR h40
    go_enter Tryz.func55, Tryz.ntmps55
    go_wp2
    go_loopw [3, 4] (fun q _ wr => ∃ k : Nat, k ≤ l.length ∧ q = .int .i64 k ∧ Hid (r = tes ((tm l).drop k)) ∧ Below w.heap.size w wr) (fun q _ _ => l.length - (intOf q).toNat)
    case atStart => exact ⟨0, by omega, rfl, HR0, Below.refl _ _⟩
    case round =>
      obtain ⟨k, hk, rfl, HR, hb⟩ := hrel
      clear HR0
      by_cases hlt : k < l.length
      · have i1 : (k : Int) < (l.length : Int) := by omega
        obtain ⟨b, off, rfl, x0, x1, hpl⟩ := (H.out.later hb).at_ hlt
        have hd := tes_drop (tm l) k (by rw [tm_len]; exact hlt)
        have hg : (tm l)[k]'(by rw [tm_len]; exact hlt) = (l[k].c, l[k].p) := by simp [tm]
        rw [hg] at hd
        have hpe := HP.out _ (List.getElem_mem hlt)
        clear hg
        generalize l[k] = x at *
        obtain ⟨c, p, pa, pk⟩ := x
        simp only at *
        have HD := Lib.hid hd
        have HL := Lib.hid hpl
        clear hd hpl
        by_cases hc : okC c
        · have cC := fun W => within3_any c (-1000) 1000 W true (.inl ⟨hc.1, hc.2, rfl⟩)
          have cI := fun W h => isPath_any pa pk p (pe p) W h (pe_R p) hpe
          by_cases hp8 : 8 < p.length
          · have j8 : (8 : Int) < (p.length : Int) := by omega
            have HN : r = 3 := by rw [HR.out, HD.out]; unfold te pe; rw [if_pos hc, if_pos hp8, if_neg (by omega)]
            subst HN
            clear hc HD HR cI hp8
            go_wp2_with ((with_reducible refine (cC _).mono ?_); clear cC; rintro e w1 ⟨rfl, rfl⟩)
            go_ret
            exact ⟨rfl, by repeat (first | (with_reducible exact Below.refl _ _) | (with_reducible refine Below.setCell ?_ ?_ _) | (with_reducible refine Below.drew ?_) | (with_reducible refine Below.alloc ?_ ?_ _) | (with_reducible refine Below.trans ?_ (Below.mono hb ?_)) | (with_reducible exact hb.size) | omega | (simp <;> omega) | (simp <;> (have s := hb.size; omega)) | (have s0 := hb.size; (try simp at s0); (try simp); omega))⟩
          · have j8 : ¬ (8 : Int) < (p.length : Int) := by omega
            by_cases hpp : pe p = 0
            · have HN : Hid (r = tes ((tm l).drop (k + 1))) := Lib.hid (by rw [HR.out, HD.out]; unfold te; rw [if_pos hc, if_pos hpp])
              rw [hpp] at cI
              clear hc hpp HD HR hp8
              go_wp2_with (first
                | ((with_reducible refine (cC _).mono ?_); clear cC; rintro e w1 ⟨rfl, rfl⟩)
                | ((with_reducible refine (cI _ (HL.out.later (by repeat (first | (with_reducible exact Below.refl _ _) | (with_reducible refine Below.setCell ?_ ?_ _) | (with_reducible refine Below.drew ?_) | (with_reducible refine Below.alloc ?_ ?_ _) | omega | (simp <;> omega))))).mono ?_); clear cI; rintro e w2 ⟨rfl, hw2⟩))
              go_roundw
              case rel => exact ⟨k + 1, by omega, by go_num, HN, by repeat (first | (with_reducible exact Below.refl _ _) | (with_reducible refine Below.setCell ?_ ?_ _) | (with_reducible refine Below.drew ?_) | (with_reducible refine Below.alloc ?_ ?_ _) | (with_reducible refine Below.trans ?_ (Below.mono hw2 ?_)) | (with_reducible refine Below.trans ?_ (Below.mono hb ?_)) | (with_reducible exact hw2.size) | (with_reducible exact hb.size) | omega | (simp <;> omega) | (simp <;> (have s := hw2.size; omega)) | (simp <;> (have s := hb.size; omega)) | (have s0 := hw2.size; (try simp at s0); have s1 := hb.size; (try simp at s1); (try simp); omega))⟩
              case measure => simp [intOf]; omega
            · have HN : r = pe p := by rw [HR.out, HD.out]; unfold te; rw [if_pos hc, if_neg hpp]
              rw [← HN] at cI hpp
              have q1 : (r != 0) = true := by simpa using hpp
              clear hc hpp HD HR HN hp8
              go_wp2_with (first
                | ((with_reducible refine (cC _).mono ?_); clear cC; rintro e w1 ⟨rfl, rfl⟩)
                | ((with_reducible refine (cI _ (HL.out.later (by repeat (first | (with_reducible exact Below.refl _ _) | (with_reducible refine Below.setCell ?_ ?_ _) | (with_reducible refine Below.drew ?_) | (with_reducible refine Below.alloc ?_ ?_ _) | omega | (simp <;> omega))))).mono ?_); clear cI; rintro e w2 ⟨rfl, hw2⟩))
              go_ret
              exact ⟨rfl, by repeat (first | (with_reducible exact Below.refl _ _) | (with_reducible refine Below.setCell ?_ ?_ _) | (with_reducible refine Below.drew ?_) | (with_reducible refine Below.alloc ?_ ?_ _) | (with_reducible refine Below.trans ?_ (Below.mono hw2 ?_)) | (with_reducible refine Below.trans ?_ (Below.mono hb ?_)) | (with_reducible exact hw2.size) | (with_reducible exact hb.size) | omega | (simp <;> omega) | (simp <;> (have s := hw2.size; omega)) | (simp <;> (have s := hb.size; omega)) | (have s0 := hw2.size; (try simp at s0); have s1 := hb.size; (try simp at s1); (try simp); omega))⟩
        · have cC := fun W => within3_any c (-1000) 1000 W false (.inr ⟨hc, rfl⟩)
          have HN : r = 3 := by rw [HR.out, HD.out]; unfold te; rw [if_neg hc, if_neg (by omega)]
          subst HN
          clear hc HD HR
          go_wp2_with ((with_reducible refine (cC _).mono ?_); clear cC; rintro e w1 ⟨rfl, rfl⟩)
          go_ret
          exact ⟨rfl, by repeat (first | (with_reducible exact Below.refl _ _) | (with_reducible refine Below.setCell ?_ ?_ _) | (with_reducible refine Below.drew ?_) | (with_reducible refine Below.alloc ?_ ?_ _) | (with_reducible refine Below.trans ?_ (Below.mono hb ?_)) | (with_reducible exact hb.size) | omega | (simp <;> omega) | (simp <;> (have s := hb.size; omega)) | (have s0 := hb.size; (try simp at s0); (try simp); omega))⟩
      · obtain rfl : l.length = k := by omega
        have HN : r = 0 := by rw [HR.out, List.drop_of_length_le (by rw [tm_len]; omega)]; rfl
        subst HN
        clear HR
        go_wp2
        go_ret
        exact ⟨rfl, by repeat (first | (with_reducible exact Below.refl _ _) | (with_reducible refine Below.setCell ?_ ?_ _) | (with_reducible refine Below.drew ?_) | (with_reducible refine Below.alloc ?_ ?_ _) | (with_reducible refine Below.trans ?_ (Below.mono hb ?_)) | (with_reducible exact hb.size) | omega | (simp <;> omega) | (simp <;> (have s := hb.size; omega)) | (have s0 := hb.size; (try simp at s0); (try simp); omega))⟩
/-- the error of two sums -/
def bothR (l m : List E) : Int := if vT (tm l) = 0 then vT (tm m) else vT (tm l)
end Go.Proofs.YtjidbajcnomceaaGreat
