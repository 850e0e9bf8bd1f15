/- Products of sums of loops, as the document makes them.
Conditions: those written at each theorem. -/
import Derived.Test.YtjidbajcnomceaaLoopCp
import Derived.Test.YtjidbajcnomceaaLoopH
namespace Go.Proofs.Ytjidbajcnomceaa
set_option linter.unusedVariables false
set_option linter.unusedSimpArgs false
set_option maxRecDepth 1000000
open Go.RowKit Go.Sort
open Um Tm Lm

/-- one term more in a row of the call's own, whose path the call owns -/
theorem push_one {W w5 : World} {B : Nat} {v v5 : Value} {n : Nat} {ts : List E} {x : E} {o : Obj} (hF : W.ownsRow B 37 2 v n (ts.flatMap ec)) (hI : PI W B ts) (hW : W.ownsRow B 3 1 (.slice x.a x.p.length x.k) x.p.length (x.p.map vi)) (hown : w5.ownsRow B 37 2 v5 (n + [x].length) (ts.flatMap ec ++ [x].flatMap ec)) (hg : (W.alloc o).grownBy w5 v.ownBlock) :
    ∃ ro rc, v5 = .slice ro (n + 1) rc ∧ w5.ownsRow B 37 2 (.slice ro (n + 1) rc) (n + 1) ((ts ++ [x]).flatMap ec) ∧ PI w5 B (ts ++ [x]) := by
  have hI3 : PI w5 B (ts ++ [x]) := by
    have ha : PI (W.alloc o) B (ts ++ [x]) := fun e he => by
      rcases List.mem_append.1 he with he | he
      · exact (hI e he).alloc _
      · rw [List.mem_singleton] at he
        subst he
        exact hW.alloc _
    exact ha.kept (hF.alloc _) hg
  have hF3 : w5.ownsRow B 37 2 v5 (n + 1) ((ts ++ [x]).flatMap ec) := by simpa using hown
  obtain ⟨ro3, rc3, rfl⟩ : ∃ ro3 rc3, v5 = .slice ro3 (n + 1) rc3 := by
    rcases hF3.2 with ⟨-, h0⟩ | ⟨g', cap', cur, hv, -⟩
    · omega
    · exact ⟨_, _, hv⟩
  exact ⟨ro3, rc3, rfl, hF3, hI3⟩
set_option maxHeartbeats 1600000 in
theorem refTimes_bad (ao bo : Option Addr) (ca cb : Nat) (l m : List E) (w : World) (h : Trs w ao l) (h2 : Trs w bo m) (h0 : bothR l m ≠ 0) (hl : l.length ≤ 1000000) (hp : ∀ e ∈ l, e.p.length ≤ 1000000) (hm : m.length ≤ 1000000) (hq : ∀ e ∈ m, e.p.length ≤ 1000000) :
    Calls Try.prog 51 #[.slice ao l.length ca, .slice bo m.length cb] w fun e w' => e = .returned (.tuple #[.slice none 0 0, .int .i64 (bothR l m)]) ∧ Below w.heap.size w w' := by
  have H := Lib.hid h
  have H2 := Lib.hid h2
  have cV := fun W h1 h2 => both_any ao bo ca cb l m W h1 h2 hl hp hm hq
  generalize bothR l m = r at *
  have q1 : (r != 0) = true := by simpa using h0
  clear h h2 h0 hp hq
  go_enter Try.func51, Try.ntmps51
  go_wp2_with (fail)
  refine (cV _ (H.out.later (by repeat (first | (with_reducible exact Below.refl _ _) | (with_reducible refine Below.setCell ?_ ?_ _) | (with_reducible refine Below.drew ?_) | (with_reducible refine Below.alloc ?_ ?_ _) | omega | (simp <;> omega)))) (H2.out.later (by repeat (first | (with_reducible exact Below.refl _ _) | (with_reducible refine Below.setCell ?_ ?_ _) | (with_reducible refine Below.drew ?_) | (with_reducible refine Below.alloc ?_ ?_ _) | omega | (simp <;> omega))))).mono ?_
  rintro e w1 ⟨rfl, hw1⟩
  go_wp2
  go_ret2
  exact ⟨rfl, by repeat (first | (with_reducible exact Below.refl _ _) | (with_reducible refine Below.setCell ?_ ?_ _) | (with_reducible refine Below.drew ?_) | (with_reducible refine Below.alloc ?_ ?_ _) | (with_reducible refine Below.trans ?_ (Below.mono hw1 ?_)) | (with_reducible exact hw1.size) | omega | (simp <;> omega) | (simp <;> (have s := hw1.size; omega)) | (have s0 := hw1.size; (try simp at s0); (try simp); omega))⟩
/-- what has been multiplied so far -/
structure Td (w : World) (B : Nat) (ro : Option Addr) (n rc : Nat) (A Bm : List Trm) (i j : Nat) (ts : List E) : Prop where
  own : w.ownsRow B 37 2 (.slice ro n rc) n (ts.flatMap ec)
  len : ts.length = n
  pi : PI w B ts
  small : ∀ t ∈ ts, t.p.length ≤ 16 ∧ ∀ s ∈ t.p, IsStep s
  raw : ∀ u, A[i]? = some u → tm ts = rawP (A.take i) Bm ++ (Bm.take j).flatMap (pairs u)
  raw0 : j = 0 → tm ts = rawP (A.take i) Bm
theorem Td.later {w w1 : World} {B : Nat} {ro : Option Addr} {n rc i j : Nat} {A Bm : List Trm} {ts : List E} (h : Td w B ro n rc A Bm i j ts) (hb : Below w.heap.size w w1) : Td w1 B ro n rc A Bm i j ts := ⟨owned_later h.own hb, h.len, h.pi.later hb, h.small, h.raw, h.raw0⟩
theorem Td.next {w : World} {B : Nat} {ro : Option Addr} {n rc i : Nat} {A Bm : List Trm} {ts : List E} (h : Td w B ro n rc A Bm i Bm.length ts) (hi : i < A.length) : Td w B ro n rc A Bm (i + 1) 0 ts :=
  have e : tm ts = rawP (A.take (i + 1)) Bm := by
    rw [h.raw _ (List.getElem?_eq_getElem hi), rawP_take A Bm i hi, List.take_length]
  ⟨h.own, h.len, h.pi, h.small, fun u _ => by rw [List.take_zero, List.flatMap_nil, List.append_nil]; exact e, fun _ => e⟩
theorem Td.zero (w : World) (B : Nat) (A Bm : List Trm) : Td w B none 0 0 A Bm 0 0 [] :=
  ⟨World.ownsRow_nil _ _ _ _, rfl, fun e he => by simp at he, fun e he => by simp at he, fun u _ => by simp [tm, rawP], fun _ => by simp [tm, rawP]⟩
/-- two products more -/
theorem Td.two {w w1 : World} {B : Nat} {ro ro1 : Option Addr} {n rc rc1 i j : Nat} {A Bm : List Trm} {ts : List E} (h : Td w B ro n rc A Bm i j ts) (hi : i < A.length) (hj : j < Bm.length) (x y : E) (c d : Int) (p q : List Int) (hu : A[i] = (c, p)) (hv : Bm[j] = (d, q)) (hx : x.c = c * d ∧ x.p = p ++ q) (hy : y.c = c * d ∧ y.p = p ++ opp q)
    (n1 : p.length ≤ 8) (n2 : q.length ≤ 8) (s1 : ∀ t ∈ p, IsStep t) (s2 : ∀ t ∈ q, IsStep t) (hown : w1.ownsRow B 37 2 (.slice ro1 (n + 1 + 1) rc1) (n + 1 + 1) ((ts ++ [x] ++ [y]).flatMap ec)) (hpi : PI w1 B (ts ++ [x] ++ [y])) : Td w1 B ro1 (n + 1 + 1) rc1 A Bm i (j + 1) (ts ++ [x] ++ [y]) := by
  refine ⟨hown, by simp [h.len], hpi, ?_, ?_, fun h => by omega⟩
  · intro t ht
    simp only [List.mem_append, List.mem_singleton] at ht
    rcases ht with (ht | rfl) | rfl
    · exact h.small t ht
    · rw [hx.2]
      exact ⟨by rw [List.length_append]; omega, fun s hs => (List.mem_append.1 hs).elim (s1 s) (s2 s)⟩
    · rw [hy.2]
      exact ⟨by rw [List.length_append, opp_len]; omega, fun s hs => (List.mem_append.1 hs).elim (s1 s) (opp_steps s2 s)⟩
  · intro u hu'
    rw [List.getElem?_eq_getElem hi] at hu'
    obtain rfl : A[i] = u := Option.some.inj hu'
    have e := h.raw _ (List.getElem?_eq_getElem hi)
    rw [pairs_take _ _ _ hj, ← List.append_assoc, ← e, hu, hv]
    simp [tm, pairs, hx.1, hx.2, hy.1, hy.2]
end Go.Proofs.Ytjidbajcnomceaa
