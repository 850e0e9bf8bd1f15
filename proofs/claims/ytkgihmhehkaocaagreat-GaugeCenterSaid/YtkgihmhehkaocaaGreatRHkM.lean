/- Small units, branches and loops of a small field.
Conditions: none. -/
import Derived.Test.YtkgihmhehkaocaaGreatRGauC
import Derived.Test.YtkgihmhehkaocaaGreatRGauB
import Derived.Test.YtkgihmhehkaocaaGreatRNumC
namespace Go.Proofs.YtkgihmhehkaocaaGreat
set_option linter.unusedVariables false
set_option linter.unusedSimpArgs false
set_option maxRecDepth 1000000
open Go.RowKit
open Um Tm

/-- a valid unit that is small -/
def Sm2 (u : Q) : Prop := V u ∧ u.n ≤ 2
theorem sm2_facts : ∀ k : Nat, k < 24 → g (small k) = 1 ∧ (small k).a * (small k).a + (small k).b * (small k).b + (small k).c * (small k).c + (small k).d * (small k).d = (small k).n * (small k).n ∧ 1 ≤ (small k).n ∧ (small k).n ≤ 2 := by decide +kernel
theorem sm2_small {k : Nat} (hk : k < 24) : Sm2 (small k) := by
  obtain ⟨h1, h2, h3, h4⟩ := sm2_facts k hk
  exact ⟨⟨⟨by omega, h2⟩, h1, by omega⟩, h4⟩
theorem sm2_num {u : Q} {r : Int} (h : NumR u r true) : Sm2 u := by
  rcases h with ⟨k, hk, rfl, -, -, -⟩ | ⟨-, -, h⟩
  · exact sm2_small hk
  · cases h
def fiveG : List Int := [-2, -1, 0, 1, 2]
theorem fiveG_of {x : Int} (h : -2 ≤ x ∧ x ≤ 2) : x ∈ fiveG := by
  have : x = -2 ∨ x = -1 ∨ x = 0 ∨ x = 1 ∨ x = 2 := by omega
  rcases this with h | h | h | h | h <;> subst h <;> decide
theorem sm2_all : ∀ n ∈ ([1, 2] : List Int), ∀ a ∈ fiveG, ∀ b ∈ fiveG, ∀ c ∈ fiveG, ∀ d ∈ fiveG, a * a + b * b + c * c + d * d = n * n → g ⟨a, b, c, d, n⟩ = 1 → ∃ k ∈ List.range 24, small (k : Int) = ⟨a, b, c, d, n⟩ := by decide +kernel
theorem sm2_is {u : Q} (h : Sm2 u) : ∃ k : Nat, k < 24 ∧ u = small k := by
  obtain ⟨hv, h2⟩ := h
  have hp := hv.u.pos
  have hl := hv.u.len
  have hg := hv.prim
  obtain ⟨p1, p2, p3, p4, p5, p6, p7, p8⟩ := part_le u hv.u
  obtain ⟨a, b, c, d, n⟩ := u
  dsimp only at hp hl h2 p1 p2 p3 p4 p5 p6 p7 p8
  have hn : n = 1 ∨ n = 2 := by omega
  obtain ⟨k, hk, he⟩ := sm2_all n (by rcases hn with h | h <;> subst h <;> decide) a (fiveG_of (by omega)) b (fiveG_of (by omega)) c (fiveG_of (by omega)) d (fiveG_of (by omega)) hl hg
  exact ⟨k, List.mem_range.1 hk, he.symm⟩
theorem Sm2.mul {x y : Q} (hx : Sm2 x) (hy : Sm2 y) : Sm2 (low (mul x y)) := by
  have hu := mul_len x y hx.1.u hy.1.u
  obtain ⟨k, hk, rfl⟩ := sm2_is hx
  obtain ⟨m, hm, rfl⟩ := sm2_is hy
  have := (small_mul k hk m hm).1
  exact ⟨V.of_low hu (by omega), this⟩
theorem Sm2.bar {x : Q} (hx : Sm2 x) : Sm2 (bar x) := ⟨hx.1.bar, hx.2⟩
theorem Sm2.one : Sm2 one := ⟨V.one, by decide⟩
def AllS (L : List Q) : Prop := ∀ (i : Nat) (x : Q), L[i]? = some x → Sm2 x
theorem AllS.lk {L : List Q} (h : AllS L) {k : Int} (h0 : 0 ≤ k) (h1 : k < (L.length : Int)) : Sm2 (lk L k) := h _ _ (lk_get h0 h1)
theorem AllS.num {L : List Q} {ns : List Int} (h : smR L ns true) : AllS L := fun i x hx => by
  rcases h with ⟨_, h⟩ | ⟨h, _⟩
  · obtain ⟨m, -, hr⟩ := h.2 i x (List.getElem?_eq_some_iff.1 hx).1 hx
    exact sm2_num hr
  · cases h
theorem Sm2.tri {x y z : Q} (hx : Sm2 x) (hy : Sm2 y) (hz : Sm2 z) : Sm2 (low (Um.mul (Um.mul x y) (Um.bar z))) := by
  have h1 := hx.mul hy
  have h2 := h1.mul hz.bar
  rw [low_mul_left (Um.mul x y) (Um.bar z) (mul_len x y hx.1.u hy.1.u).pos] at h2
  exact h2
theorem AllS.tf {a b c : Int} {L G : List Q} (hz : Sz a b c) (hn : (L.length : Int) = 3 * (a * b * c)) (hg : 3 * G.length = L.length) (hL : AllS L) (hG : AllS G) : AllS (tfL a b c L G) := fun i x hx => by
  have hi : i < L.length := by have := (List.getElem?_eq_some_iff.1 hx).1; rwa [tfL_len] at this
  rw [tfL_get hi] at hx
  have := Option.some.inj hx
  subst this
  obtain ⟨t0, t1⟩ := ahd_rng hz i
  exact Sm2.tri (hG.lk (by omega) (by omega)) (hL.lk (by omega) (by omega)) (hG.lk t0 (by omega))
theorem AllS.lim {L : List Q} (h : AllS L) : Lim L := fun i x hx => by have := (h i x hx).2; omega
/-- the links of the tree are links -/
theorem tr_mem {a b c : Int} {N : Nat} (hz : Sz a b c) (hN : (N : Int) = a * b * c) : ∀ n, n ≤ 3 * N → ∀ k ∈ (trAt a b c n).2, 0 ≤ k ∧ k < 3 * (N : Int) := by
  obtain ⟨N', hN', hgo, hfin⟩ := tr_good hz
  obtain rfl : N' = N := by omega
  intro n
  induction n with
  | zero => intro _ k hk; simp [trAt] at hk
  | succ n ih =>
    intro hn k hk
    have h1 := ih (by omega)
    obtain ⟨g1, g2⟩ := hgo n (by omega)
    rw [trAt] at hk
    unfold trStep at hk
    split at hk
    · exact h1 k hk
    · simp only [List.mem_append, List.mem_singleton] at hk
      rcases hk with hk | rfl
      · exact h1 k hk
      · have hx := List.getElem?_eq_getElem g1
        have := g2 _ (List.getElem_mem g1)
        rw [show List.getD (trAt a b c n).1 (n / 3) 0 = (trAt a b c n).1[n / 3] by simp [List.getD, hx]]
        omega
/-- a link of the tree leads to another site -/
theorem tr_ne {a b c : Int} {N : Nat} (hz : Sz a b c) (hN : (N : Int) = a * b * c) : ∀ n, n ≤ 3 * N → ∀ k ∈ (trAt a b c n).2, ahd a b c k.toNat ≠ ((k.toNat / 3 : Nat) : Int) := by
  obtain ⟨N', hN', hgo, hfin⟩ := tr_good hz
  obtain rfl : N' = N := by omega
  intro n
  induction n with
  | zero => intro _ k hk; simp [trAt] at hk
  | succ n ih =>
    intro hn k hk
    have h1 := ih (by omega)
    obtain ⟨g1, g2⟩ := hgo n (by omega)
    rw [trAt] at hk
    unfold trStep at hk
    split at hk
    · exact h1 k hk
    · rename_i hnot
      simp only [List.mem_append, List.mem_singleton] at hk
      rcases hk with hk | rfl
      · exact h1 k hk
      · have hx := List.getElem?_eq_getElem g1
        have hm := List.getElem_mem g1
        have := g2 _ hm
        have e0 : List.getD (trAt a b c n).1 (n / 3) 0 = (trAt a b c n).1[n / 3] := by simp [List.getD, hx]
        rw [e0] at hnot ⊢
        generalize (trAt a b c n).1[n / 3] = x at *
        intro he
        rw [Int.toNat_natCast, show (3 * x.toNat + n % 3) / 3 = x.toNat by omega] at he
        rw [he, Int.toNat_of_nonneg this.1] at hnot
        exact hnot hm
def brF (a b c : Int) (L G : List Q) (k : Int) : List Q := G.set (ahd a b c k.toNat).toNat (low (mul (lk G ((k.toNat / 3 : Nat) : Int)) (lk L k)))
theorem brF_len (a b c : Int) (L G : List Q) (k : Int) : (brF a b c L G k).length = G.length := by simp [brF]
def brT (a b c : Int) (L : List Q) (N : Nat) (l : List Int) : List Q := l.foldl (brF a b c L) (List.replicate N one)
theorem brT_len (a b c : Int) (L : List Q) (N : Nat) (l : List Int) : (brT a b c L N l).length = N := by
  have key : ∀ (l : List Int) (G : List Q), (l.foldl (brF a b c L) G).length = G.length := by
    intro l
    induction l with
    | nil => intro G; rfl
    | cons k l ih => intro G; rw [List.foldl_cons, ih, brF_len]
  unfold brT
  rw [key]
  simp
theorem brT_take (a b c : Int) (L : List Q) (N : Nat) (l : List Int) (j : Nat) (k : Int) (hk : l[j]? = some k) : brT a b c L N (l.take (j + 1)) = brF a b c L (brT a b c L N (l.take j)) k := by
  have hj := (List.getElem?_eq_some_iff.1 hk).1
  unfold brT
  rw [List.take_succ_eq_append_getElem hj, List.foldl_append, (List.getElem?_eq_some_iff.1 hk).2]
  rfl
theorem AllS.br {a b c : Int} {L : List Q} {N : Nat} (hn : (L.length : Int) = 3 * (N : Int)) (hL : AllS L) : ∀ (l : List Int), (∀ k ∈ l, 0 ≤ k ∧ k < 3 * (N : Int)) → AllS (brT a b c L N l) := by
  have key : ∀ (l : List Int) (G : List Q), G.length = N → AllS G → (∀ k ∈ l, 0 ≤ k ∧ k < 3 * (N : Int)) → AllS (l.foldl (brF a b c L) G) := by
    intro l
    induction l with
    | nil => intro G _ h _; exact h
    | cons k l ih =>
      intro G hG h hl
      rw [List.foldl_cons]
      refine ih _ (by rw [brF_len]; exact hG) (fun i x hx => ?_) (fun m hm => hl m (List.mem_cons_of_mem _ hm))
      obtain ⟨k0, k1⟩ := hl k List.mem_cons_self
      unfold brF at hx
      rw [List.getElem?_set] at hx
      split at hx
      · split at hx
        · have := Option.some.inj hx
          subst this
          exact (h.lk (by omega) (by omega)).mul (hL.lk k0 (by omega))
        · cases hx
      · exact h i x hx
  intro l hl
  refine key l _ (by simp) (fun i x hx => ?_) hl
  rw [List.getElem?_replicate] at hx
  split at hx
  · have := Option.some.inj hx
    subst this
    exact Sm2.one
  · cases hx
/-- the tree, the branches, the fixed field and its loops -/
def trL (a b c : Int) (N : Nat) : List Int := (trAt a b c (3 * N)).2
def brL (a b c : Int) (N : Nat) (L : List Q) : List Q := brT a b c L N (trL a b c N)
def fxL (a b c : Int) (N : Nat) (L : List Q) : List Q := tfL a b c L (brL a b c N L)
def lpK (T : List Q) (tr : List Int) : Nat → List Q
  | 0 => []
  | k + 1 => if (k : Int) ∈ tr then lpK T tr k else lpK T tr k ++ [lk T (k : Int)]
def lpL (a b c : Int) (N : Nat) (L : List Q) : List Q := lpK (fxL a b c N L) (trL a b c N) L.length
theorem lpK_len (T : List Q) (tr : List Int) (k : Nat) : (lpK T tr k).length ≤ k := by
  induction k with
  | zero => simp [lpK]
  | succ k ih =>
    unfold lpK
    split
    · omega
    · simp; omega
theorem lpK_all {T : List Q} (tr : List Int) (h : AllS T) : ∀ k, k ≤ T.length → AllS (lpK T tr k) := by
  intro k
  induction k with
  | zero => intro _ i x hx; simp [lpK] at hx
  | succ k ih =>
    intro hk i x hx
    unfold lpK at hx
    split at hx
    · exact ih (by omega) i x hx
    · rw [List.getElem?_append] at hx
      split at hx
      · exact ih (by omega) i x hx
      · have hm := List.mem_of_getElem? hx
        rw [List.mem_singleton] at hm
        subst hm
        exact h.lk (by omega) (by omega)
end Go.Proofs.YtkgihmhehkaocaaGreat
