/- The plaquettes of a field, as the document's answers make them.
Conditions: those written at each theorem. -/
import Derived.Test.YtmmkhkkmgjighaaPlaqB
import Derived.Test.YtmmkhkkmgjighaaAlongR
namespace Go.Proofs.Ytmmkhkkmgjighaa
set_option linter.unusedVariables false
set_option linter.unusedSimpArgs false
set_option maxRecDepth 1000000
open Go.RowKit
open Um Tm

/-- the path of a plaquette -/
def pth (n : Int) : List Int := if n = 0 then [1, 2, -1, -2] else if n = 1 then [1, 3, -1, -3] else [2, 3, -2, -3]
theorem pth_cases (n : Int) (h0 : 0 ≤ n) (h3 : n < 3) : (n = 0 ∧ pth n = [1, 2, -1, -2]) ∨ (n = 1 ∧ pth n = [1, 3, -1, -3]) ∨ (n = 2 ∧ pth n = [2, 3, -2, -3]) := by
  have : n = 0 ∨ n = 1 ∨ n = 2 := by omega
  rcases this with rfl | rfl | rfl <;> simp [pth]
theorem pth_len (n : Int) : (pth n).length = 4 := by unfold pth; split <;> (try split) <;> rfl
theorem pth_steps (n : Int) : ∀ t ∈ pth n, IsStep t := by
  unfold pth
  split <;> (try split) <;> simp [IsStep]
/-- the units along the plaquettes, by their number -/
def pq (a b c : Int) (L : List Q) (i : Nat) : Q := al a b c L ((i : Int) / 3) (pth ((i : Int) % 3))
def pqs (a b c : Int) (L : List Q) (k : Nat) : List Q := (List.range k).map (pq a b c L)
theorem pqs_len (a b c : Int) (L : List Q) (k : Nat) : (pqs a b c L k).length = k := by simp [pqs]
theorem pqs_succ (a b c : Int) (L : List Q) (k : Nat) : pqs a b c L (k + 1) = pqs a b c L k ++ [pq a b c L k] := by simp [pqs, List.range_succ]
theorem pqs_plqs (a b c : Int) (L : List Q) (N : Nat) : plqs a b c L (List.range N) = pqs a b c L (3 * N) := by
  induction N with
  | zero => rfl
  | succ N ih =>
    rw [List.range_succ, show 3 * (N + 1) = 3 * N + 1 + 1 + 1 by omega, pqs_succ, pqs_succ, pqs_succ, ← ih]
    unfold plqs
    rw [List.flatMap_append]
    simp only [List.flatMap_cons, List.flatMap_nil, List.append_nil, List.append_assoc, List.cons_append, List.nil_append]
    unfold plq pq
    congr 1
    have e0 : ((3 * N : Nat) : Int) / 3 = N := by omega
    have e1 : ((3 * N + 1 : Nat) : Int) / 3 = N := by omega
    have e2 : ((3 * N + 1 + 1 : Nat) : Int) / 3 = N := by omega
    have m0 : ((3 * N : Nat) : Int) % 3 = 0 := by omega
    have m1 : ((3 * N + 1 : Nat) : Int) % 3 = 1 := by omega
    have m2 : ((3 * N + 1 + 1 : Nat) : Int) % 3 = 2 := by omega
    rw [e0, e1, e2, m0, m1, m2]
    simp [pth]

theorem refPlaquette_any (n : Int) (w : World) (h : n = 0 ∨ n = 1 ∨ n = 2) : Calls Try.prog 59 #[.int .i64 n] w fun e w' => ∃ g : Nat, e = .returned (.slice (some ⟨g, 0, none⟩) 4 4) ∧ LiesI w' g 0 (pth n) ∧ Below w.heap.size w w' := by
  rcases h with rfl | rfl | rfl
  all_goals
    go_enter Try.func59, Try.ntmps59
    go_wp2
    go_ret
    exact ⟨_, rfl, lies4 (by simp [go_sem]) (by simp [go_sem]) (by simp [go_sem]) (by simp [go_sem]), by repeat (first | (with_reducible exact Below.refl _ _) | (with_reducible refine Below.setCell ?_ ?_ _) | (with_reducible refine Below.drew ?_) | (with_reducible refine Below.alloc ?_ ?_ _) | omega | (simp <;> omega))⟩

set_option maxHeartbeats 6400000 in
theorem refPlaquettes_ok (a b c : Int) (bl off cap N : Nat) (L : List Q) (w : World) (hl : Lies w bl off L) (hF : Fl a b c L) (hN : (N : Int) = a * b * c) :
    Calls Try.prog 17 #[.agg #[.int .i64 a, .int .i64 b, .int .i64 c, .slice (some ⟨bl, off, none⟩) L.length cap]] w fun e w' => ∃ g k : Nat, e = .returned (.tuple #[.slice (some ⟨g, 0, none⟩) (3 * N) k, .int .i64 0]) ∧ Lies w' g 0 (pqs a b c L (3 * N)) ∧ Below w.heap.size w w' := by
  have hp := hF.z.p
  have hn := hF.n
  have hr := Fl_fldR hF
  have c1 := fun (W : World) (h : Lies W bl off L) => refValidateF_any a b c 0 (some ⟨bl, off, none⟩) cap L W (.inr ⟨bl, off, rfl, h⟩) hr (by omega)
  have c2 := fun W : World => refSize_any a b c W hF.z.a1 hF.z.a4 hF.z.b1 hF.z.b4 hF.z.c1 hF.z.c4
  have c3 := fun (n : Int) (W : World) (h : n = 0 ∨ n = 1 ∨ n = 2) => refPlaquette_any n W h
  have cU : ∀ (k : Nat), k < 3 * N → ∀ (W : World) (g : Nat), Lies W bl off L → LiesI W g 0 (pth ((k : Int) % 3)) → Calls Try.prog 58 #[.agg #[.int .i64 a, .int .i64 b, .int .i64 c, .slice (some ⟨bl, off, none⟩) L.length cap], .int .i64 ((k : Int) / 3), .slice (some ⟨g, 0, none⟩) 4 4] W fun e w' => e = .returned (.agg #[.int .i64 (pq a b c L k).a, .int .i64 (pq a b c L k).b, .int .i64 (pq a b c L k).c, .int .i64 (pq a b c L k).d, .int .i64 (pq a b c L k).n]) ∧ Below W.heap.size W w' := fun k hk W g h1 h2 => by
    have := refUnit_some a b c ((k : Int) / 3) bl off cap g 0 4 L (pth ((k : Int) % 3)) W hF (by omega) (by omega) h1 h2 (pth_steps _) (by rw [pth_len]; omega) (by rw [pth_len]; omega)
    rw [pth_len] at this
    exact this
  have cs : ∀ k, (pqs a b c L (k + 1)).flatMap uc = (pqs a b c L k).flatMap uc ++ uc (pq a b c L k) := fun k => by rw [pqs_succ, List.flatMap_append]; simp
  obtain ⟨-, -, p3, -⟩ := mul_rng hF.z.a1 hF.z.a4 hF.z.b1 hF.z.b4 hF.z.c1 hF.z.c4
  have hN0 : 0 < N := by omega
  have hN16 : N ≤ 16 := by omega
  obtain ⟨i0, hi, hz0, hz1, hz2⟩ := info_parts infoU
  rw [← hN] at c2
  have HL := Lib.hid hl
  have HN := Lib.hid hN
  have HCS := Lib.hid cs
  have HU := Lib.hid cU
  clear hl hF hN hr hp hn p3 cs cU
  go_enter Try.func17, Try.ntmps17
  go_wp2_with ((with_reducible refine (c1 _ (HL.out.later (by repeat (first | (with_reducible exact Below.refl _ _) | (with_reducible refine Below.setCell ?_ ?_ _) | (with_reducible refine Below.drew ?_) | (with_reducible refine Below.alloc ?_ ?_ _) | omega | (simp <;> omega))))).mono ?_); clear c1; rintro e w1 ⟨rfl, hw1⟩; have hc1 := Tail.cells hw1; have zw10 := Nat.lt_of_lt_of_le (n := w.heap.size) (by simp <;> omega) hw1.size)
  have fB := (⟨by simp [go_sem], by simp [go_sem], by simp [go_sem], by simp [go_sem], by simp⟩ : FBox (w.alloc (.cells #[.int .i64 a, .int .i64 b, .int .i64 c, .slice (some ⟨bl, off, none⟩) L.length cap] 25)) w.heap.size a b c (.slice (some ⟨bl, off, none⟩) L.length cap)).later hw1
  have hB : Below w.heap.size w w1 := by repeat (first | (with_reducible exact Below.refl _ _) | (with_reducible refine Below.setCell ?_ ?_ _) | (with_reducible refine Below.drew ?_) | (with_reducible refine Below.alloc ?_ ?_ _) | (with_reducible refine Below.trans ?_ (Below.mono hw1 ?_)) | (with_reducible exact hw1.size) | omega | (simp <;> omega) | (simp <;> (have s := hw1.size; omega)) | (have s0 := hw1.size; (try simp at s0); (try simp); omega))
  clear hw1 hc1 zw10
  go_loopw [5, 6] (fun vv q wr => ∃ (k : Nat) (v : Value), k ≤ 3 * N ∧ q = .int .i64 k ∧ v = vv ∧ Hid (wr.ownsRow (w.heap.size + 1) 32 5 v k ((pqs a b c L k).flatMap uc)) ∧ FBox wr w.heap.size a b c (.slice (some ⟨bl, off, none⟩) L.length cap) ∧ Below w.heap.size w wr) (fun _ q _ => 3 * N - (intOf q).toNat)
  case atStart => exact ⟨0, _, by omega, rfl, rfl, Lib.hid (World.ownsRow_nil _ _ _ _), fB, hB⟩
  case round =>
    obtain ⟨k, v, hk, rfl, rfl, hown, fb, hb⟩ := hrel
    clear fB hB
    have FB := Lib.hid fb
    have hbs := hb.size
    obtain ⟨f0, f1, f2, f3, fl⟩ := fb
    by_cases hlt : k < 3 * N
    · have i1 : (k : Int) < 3 * (N : Int) := by omega
      have hm : (k : Int) % 3 = 0 ∨ (k : Int) % 3 = 1 ∨ (k : Int) % 3 = 2 := by omega
      have e1 : (k : Int).tmod 3 = (k : Int) % 3 := Int.tmod_eq_emod_of_nonneg (by omega)
      have e2 : IntKind.i64.wrap ((k : Int) / 3) = (k : Int) / 3 := IntWalk.i64_in _ (by omega)
      have hU := HU.out k hlt
      rw [← e1] at hm
      rw [← e1, ← e2] at hU
      have HM := Lib.hid hm
      clear e1 e2
      have HCK := Lib.hid (HCS.out k)
      generalize pq a b c L k = y at *
      clear hm
      go_wp2_with ((with_reducible refine (c2 _).mono ?_); rintro e w3 ⟨rfl, hw3⟩; obtain ⟨f0, f1, f2, f3, fl⟩ := FB.out.later hw3)
      have hb3 : Below w.heap.size w w3 := by repeat (first | (with_reducible exact Below.refl _ _) | (with_reducible refine Below.setCell ?_ ?_ _) | (with_reducible refine Below.drew ?_) | (with_reducible refine Below.alloc ?_ ?_ _) | (with_reducible refine Below.trans ?_ (Below.mono hw3 ?_)) | (with_reducible refine Below.trans ?_ (Below.mono hb ?_)) | (with_reducible exact hw3.size) | (with_reducible exact hb.size) | omega | (simp <;> omega) | (simp <;> (have s := hw3.size; omega)) | (simp <;> (have s := hb.size; omega)) | (have s0 := hw3.size; (try simp at s0); have s1 := hb.size; (try simp at s1); (try simp); omega))
      have FH := Lib.hid (FB.out.later hw3)
      have HO3 := Lib.hid (owned_later hown.out hw3)
      clear hown
      go_region_held3 (fun w' => w'.cell? ⟨w.heap.size, 0, none⟩ = some (.int .i64 a) ∧ w'.cell? ⟨w.heap.size, 1, none⟩ = some (.int .i64 b) ∧ w'.cell? ⟨w.heap.size, 2, none⟩ = some (.int .i64 c) ∧ w'.cell? ⟨w.heap.size, 3, none⟩ = some (.slice (some ⟨bl, off, none⟩) L.length cap))
        (first | go_keep | (refine ⟨?_, ?_, ?_, ?_⟩ <;> assumption))
        (first
          | ((with_reducible refine (c3 _ _ HM.out).mono ?_); clear c3; rintro e w4 ⟨g4, rfl, hp4, hw4⟩; have hF4 : Below w3.heap.size w3 w4 := (by repeat (first | (with_reducible exact Below.refl _ _) | (with_reducible refine Below.setCell ?_ ?_ _) | (with_reducible refine Below.drew ?_) | (with_reducible refine Below.alloc ?_ ?_ _) | (with_reducible refine Below.trans ?_ (Below.mono hw4 ?_)) | (with_reducible exact hw4.size) | omega | (simp <;> omega) | (simp <;> (have s := hw4.size; omega)) | (have s0 := hw4.size; (try simp at s0); (try simp); omega))); obtain ⟨f0, f1, f2, f3, fl⟩ := FH.out.later hF4; have HP4 := Lib.hid hp4; clear hp4)
          | ((with_reducible refine (hU _ _ (HL.out.later (by repeat (first | (with_reducible exact Below.refl _ _) | (with_reducible refine Below.setCell ?_ ?_ _) | (with_reducible refine Below.drew ?_) | (with_reducible refine Below.alloc ?_ ?_ _) | (with_reducible refine Below.trans ?_ (Below.mono hF4 ?_)) | (with_reducible refine Below.trans ?_ (Below.mono hb3 ?_)) | (with_reducible exact hF4.size) | (with_reducible exact hb3.size) | omega | (simp <;> omega) | (simp <;> (have s := hF4.size; omega)) | (simp <;> (have s := hb3.size; omega)) | (have s0 := hF4.size; (try simp at s0); have s1 := hb3.size; (try simp at s1); (try simp); omega)))) (HP4.out.later (by repeat (first | (with_reducible exact Below.refl _ _) | (with_reducible refine Below.setCell ?_ ?_ _) | (with_reducible refine Below.drew ?_) | (with_reducible refine Below.alloc ?_ ?_ _) | omega | (simp <;> omega))))).mono ?_); clear hU; rintro e w5 ⟨rfl, hw5⟩; have hF5 : Below w3.heap.size w3 w5 := (by repeat (first | (with_reducible exact Below.refl _ _) | (with_reducible refine Below.setCell ?_ ?_ _) | (with_reducible refine Below.drew ?_) | (with_reducible refine Below.alloc ?_ ?_ _) | (with_reducible refine Below.trans ?_ (Below.mono hw5 ?_)) | (with_reducible refine Below.trans ?_ (Below.mono hF4 ?_)) | (with_reducible exact hw5.size) | (with_reducible exact hF4.size) | omega | (simp <;> omega) | (simp <;> (have s := hw5.size; omega)) | (simp <;> (have s := hF4.size; omega)) | (have s0 := hw5.size; (try simp at s0); have s1 := hF4.size; (try simp at s1); (try simp); omega))); obtain ⟨f0, f1, f2, f3, fl⟩ := FH.out.later hF5)
          | (refine step_append_lies _ (by rfl) _ _ _ (by rfl) (w.heap.size + 1) 32 i0 _ 5 40 Try.underlying23 hi hz0 hz1 hz2 rfl (by omega) v k ((pqs a b c L k).flatMap uc) (by rfl) (owned_later HO3.out (by repeat (first | (with_reducible exact Below.refl _ _) | (with_reducible refine Below.setCell ?_ ?_ _) | (with_reducible refine Below.drew ?_) | (with_reducible refine Below.alloc ?_ ?_ _) | (with_reducible refine Below.trans ?_ (Below.mono hF5 ?_)) | (with_reducible exact hF5.size) | omega | (simp <;> omega) | (simp <;> (have s := hF5.size; omega)) | (have s0 := hF5.size; (try simp at s0); (try simp); omega)))) ⟨w5.heap.size, 0, none⟩ 1 1 (uc y) (by rfl) (by rfl) (five_cells rfl (by simp [go_sem]) (by simp [go_sem]) (by simp [go_sem]) (by simp [go_sem]) (by simp [go_sem])) (five_one rfl) (by omega) (by unfold maxLen; omega) (by omega) (by have := hF5.size; have := hb3.size; simp; omega) (w5.heap.size + 1) (by simp) ?_; intro g6 k6 w6 hown6 hgrow6 hat6 hlt6; have F6 := (FH.out.later (show Below w3.heap.size w3 _ by repeat (first | (with_reducible exact Below.refl _ _) | (with_reducible refine Below.setCell ?_ ?_ _) | (with_reducible refine Below.drew ?_) | (with_reducible refine Below.alloc ?_ ?_ _) | (with_reducible refine Below.trans ?_ (Below.mono hF5 ?_)) | (with_reducible exact hF5.size) | omega | (simp <;> omega) | (simp <;> (have s := hF5.size; omega)) | (have s0 := hF5.size; (try simp at s0); (try simp); omega)))).grown hgrow6 (owned_ne HO3.out (b := w.heap.size) (by omega)); have F6H := Lib.hid F6; obtain ⟨f0, f1, f2, f3, fl⟩ := F6))
      have hb6 := (show Below w.heap.size w _ by repeat (first | (with_reducible exact Below.refl _ _) | (with_reducible refine Below.setCell ?_ ?_ _) | (with_reducible refine Below.drew ?_) | (with_reducible refine Below.alloc ?_ ?_ _) | (with_reducible refine Below.trans ?_ (Below.mono hF5 ?_)) | (with_reducible refine Below.trans ?_ (Below.mono hb3 ?_)) | (with_reducible exact hF5.size) | (with_reducible exact hb3.size) | omega | (simp <;> omega) | (simp <;> (have s := hF5.size; omega)) | (simp <;> (have s := hb3.size; omega)) | (have s0 := hF5.size; (try simp at s0); have s1 := hb3.size; (try simp at s1); (try simp); omega))).grown hgrow6 (by have := hF5.size; have := hb3.size; simp; omega) (fun j hj => by have := owned_from HO3.out j hj; omega)
      rw [← HCK.out] at hown6
      have HO6 := Lib.hid hown6
      clear hown6 hgrow6
      go_wp2
      exact ⟨⟨k + 1, _, by omega, by go_num, rfl, HO6, F6H.out, hb6⟩, by simp [intOf]; omega⟩
    · obtain rfl : k = 3 * N := by omega
      have hk3 : ¬ ((3 * N : Nat) : Int) < 3 * (N : Int) := by omega
      obtain ⟨gv, cv, rfl, hgv⟩ := owned5_some hown.out (by omega)
      have hli : Lies wr gv 0 (pqs a b c L (3 * N)) := owned_lies (T := 32) (base := w.heap.size + 1) (cap := cv) (by rw [pqs_len]; exact hown.out)
      have HLi := Lib.hid hli
      clear hown hli
      go_wp2_with ((with_reducible refine (c2 _).mono ?_); rintro e w3 ⟨rfl, hw3⟩)
      go_ret2
      exact ⟨gv, cv, rfl, HLi.out.later (by repeat (first | (with_reducible exact Below.refl _ _) | (with_reducible refine Below.setCell ?_ ?_ _) | (with_reducible refine Below.drew ?_) | (with_reducible refine Below.alloc ?_ ?_ _) | (with_reducible refine Below.trans ?_ (Below.mono hw3 ?_)) | (with_reducible exact hw3.size) | omega | (simp <;> omega) | (simp <;> (have s := hw3.size; omega)) | (have s0 := hw3.size; (try simp at s0); (try simp); omega))), by repeat (first | (with_reducible exact Below.refl _ _) | (with_reducible refine Below.setCell ?_ ?_ _) | (with_reducible refine Below.drew ?_) | (with_reducible refine Below.alloc ?_ ?_ _) | (with_reducible refine Below.trans ?_ (Below.mono hw3 ?_)) | (with_reducible refine Below.trans ?_ (Below.mono hb ?_)) | (with_reducible exact hw3.size) | (with_reducible exact hb.size) | omega | (simp <;> omega) | (simp <;> (have s := hw3.size; omega)) | (simp <;> (have s := hb.size; omega)) | (have s0 := hw3.size; (try simp at s0); have s1 := hb.size; (try simp at s1); (try simp); omega))⟩
end Go.Proofs.Ytmmkhkkmgjighaa
