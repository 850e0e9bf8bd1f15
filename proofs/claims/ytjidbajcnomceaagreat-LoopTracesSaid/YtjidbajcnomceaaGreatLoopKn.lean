/- What every law of sums asks of the program besides: the square of one known path.
Conditions: none. -/
import Derived.Test.YtjidbajcnomceaaGreatLoopX
namespace Go.Proofs.YtjidbajcnomceaaGreat
set_option linter.unusedVariables false
set_option linter.unusedSimpArgs false
set_option maxRecDepth 1000000
open Go.RowKit
open Um Tm Lm

theorem sq_known : plT (plo (rawP [(1, [1, 2, -1, -2])] [(1, [1, 2, -1, -2])])) = [(1, []), (1, [-2, -1, 2, 1, -2, -1, 2, 1])] ∨ plT (plo (rawP [(1, [1, 2, -1, -2])] [(1, [1, 2, -1, -2])])) = [(1, []), (1, [1, 2, -1, -2, 1, 2, -1, -2])] ∨ plT (plo (rawP [(1, [1, 2, -1, -2])] [(1, [1, 2, -1, -2])])) = [(1, []), (1, [2, 1, -2, -1, 2, 1, -2, -1])] := by decide +kernel
theorem sq_two : ∃ q, plT (plo (rawP [(1, [1, 2, -1, -2])] [(1, [1, 2, -1, -2])])) = [(1, []), (1, q)] ∧ q.length = 8 ∧ vT [(1, []), (1, q)] = 0 := by
  rcases sq_known with h | h | h
  · exact ⟨_, h, rfl, by decide +kernel⟩
  · exact ⟨_, h, rfl, by decide +kernel⟩
  · exact ⟨_, h, rfl, by decide +kernel⟩
theorem two_es {es : List E} {c d : Int} {p q : List Int} (h : tm es = [(c, p), (d, q)]) : ∃ a1 k1 a2 k2, es = [⟨c, p, a1, k1⟩, ⟨d, q, a2, k2⟩] := by
  match es, h with
  | [], h => simp [tm] at h
  | [_], h => simp [tm] at h
  | [⟨c1, p1, a1, k1⟩, ⟨c2, p2, a2, k2⟩], h =>
    simp [tm] at h
    obtain ⟨⟨rfl, rfl⟩, rfl, rfl⟩ := h
    exact ⟨a1, k1, a2, k2, rfl⟩
  | _ :: _ :: _ :: _, h => simp [tm] at h
set_option maxHeartbeats 1600000 in
theorem known3_any (w : World) : Calls Tryz.prog 9 #[] w fun e w' => e = .returned (.bool true) ∧ Below w.heap.size w w' := by
  obtain ⟨q, hq, hl, hv⟩ := sq_two
  have cS := fun (a : Option Addr) W h => Square_ok a 4 [1, 2, -1, -2] W h (by decide)
  have HQ := Lib.hid hq
  go_enter Tryz.func9, Tryz.ntmps9
  go_wp2_with (fail)
  refine (cS (some ⟨w.heap.size, 0, none⟩) _ (.inr ⟨w.heap.size, 0, rfl, fun i x hx => by
    match i, hx with
    | 0, hx => simp at hx; subst hx; simp [go_sem]
    | 1, hx => simp at hx; subst hx; simp [go_sem]
    | 2, hx => simp at hx; subst hx; simp [go_sem]
    | 3, hx => simp at hx; subst hx; simp [go_sem]
    | n + 4, hx => simp at hx⟩)).mono ?_
  rintro e w1 ⟨hr, hw1⟩
  have hb : Below w.heap.size w w1 := by repeat (first | (with_reducible exact Below.refl _ _) | (with_reducible refine Below.setCell ?_ ?_ _) | (with_reducible refine Below.drew ?_) | (with_reducible refine Below.alloc ?_ ?_ _) | (with_reducible refine Below.trans ?_ (Below.mono hw1 ?_)) | (with_reducible exact hw1.size) | omega | (simp <;> omega) | (simp <;> (have s := hw1.size; omega)) | (have s0 := hw1.size; (try simp at s0); (try simp); omega))
  rcases hr with ⟨-, a, c, es, rfl, hT, hm⟩ | ⟨h1, -⟩
  · rw [HQ.out] at hm
    obtain ⟨a1, k1, a2, k2, rfl⟩ := two_es hm
    obtain ⟨b, off, rfl, x0, x1, -⟩ := hT.o.at_ (k := 0) (by simp)
    obtain ⟨b', off', he, x2, x3, -⟩ := hT.o.at_ (k := 1) (by simp)
    simp only [Option.some.injEq, Addr.mk.injEq, and_true] at he
    obtain ⟨rfl, rfl⟩ := he
    simp only [List.getElem_cons_zero, List.getElem_cons_succ, List.length_nil, hl, List.length_cons, Nat.zero_mul, Nat.one_mul, Nat.add_zero, Nat.zero_add] at x0 x1 x2 x3 hT ⊢
    clear hT hw1 hm hq hv
    go_wp2
    go_ret
    exact ⟨rfl, hb⟩
  · rw [HQ.out] at h1
    exact absurd hv h1
end Go.Proofs.YtjidbajcnomceaaGreat
