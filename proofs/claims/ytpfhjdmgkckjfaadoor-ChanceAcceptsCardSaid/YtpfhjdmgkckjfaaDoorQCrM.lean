/- Plain mathematics of small units along plaquettes: the sides of a plaquette, its trace if a link has a value, and the weight of a value; no Go.
Conditions: none. -/
import Derived.Test.YtpfhjdmgkckjfaaDoorQThrM
import Derived.Test.YtpfhjdmgkckjfaaDoorQMathA
set_option autoImplicit false
namespace Cm
set_option linter.unusedVariables false
set_option linter.unusedSimpArgs false
open Tm Um
/-- a small unit -/
def Sm (x : Q) : Prop := ∃ k : Nat, k < 24 ∧ x = small k
theorem smul_all : ∀ k : Nat, k < 24 → ∀ m : Nat, m < 24 → ∃ j : Nat, j < 24 ∧ low (mul (small k) (small m)) = small j := by decide +kernel
theorem sbar_all : ∀ k : Nat, k < 24 → ∃ j : Nat, j < 24 ∧ bar (small k) = small j := by decide +kernel
theorem sone_all : ∀ k : Nat, k < 24 → low (mul one (small k)) = small k ∧ (small k).n ≤ 2 ∧ 1 ≤ (small k).n ∧ (tr (small k)).2 = 1 ∧ -2 ≤ (tr (small k)).1 ∧ (tr (small k)).1 ≤ 2 ∧ (2 * (small k).a).tdiv (small k).n = (tr (small k)).1 := by decide +kernel
theorem Sm.mul {x y : Q} (hx : Sm x) (hy : Sm y) : Sm (low (Um.mul x y)) := by
  obtain ⟨k, hk, rfl⟩ := hx
  obtain ⟨m, hm, rfl⟩ := hy
  obtain ⟨j, hj, h⟩ := smul_all k hk m hm
  exact ⟨j, hj, h⟩
theorem Sm.bar {x : Q} (hx : Sm x) : Sm (Um.bar x) := by
  obtain ⟨k, hk, rfl⟩ := hx
  obtain ⟨j, hj, h⟩ := sbar_all k hk
  exact ⟨j, hj, h⟩
theorem Sm.v {x : Q} (hx : Sm x) : V x := by
  obtain ⟨k, hk, rfl⟩ := hx
  have h := small_v k hk
  have h2 := small_ok k hk
  exact ⟨⟨h.2.2, h.2.1⟩, h.1, by rcases h2 with h2 | h2 <;> omega⟩
theorem Sm.facts {x : Q} (hx : Sm x) : low (Um.mul one x) = x ∧ x.n ≤ 2 ∧ 1 ≤ x.n ∧ (tr x).2 = 1 ∧ -2 ≤ (tr x).1 ∧ (tr x).1 ≤ 2 ∧ (2 * x.a).tdiv x.n = (tr x).1 := by
  obtain ⟨k, hk, rfl⟩ := hx
  exact sone_all k hk
/-- the unit along two links and back along two -/
def pr4 (x0 x1 x2 x3 : Q) : Q := low (Um.mul (low (Um.mul (low (Um.mul x0 x1)) (Um.bar x2))) (Um.bar x3))
theorem pr4_sm {x0 x1 x2 x3 : Q} (h0 : Sm x0) (h1 : Sm x1) (h2 : Sm x2) (h3 : Sm x3) : Sm (pr4 x0 x1 x2 x3) := ((h0.mul h1).mul h2.bar).mul h3.bar
theorem pr4_from {x0 x1 x2 x3 : Q} (h0 : Sm x0) (h1 : Sm x1) (h2 : Sm x2) (h3 : Sm x3) : prodFrom one [x0, x1, Um.bar x2, Um.bar x3] = (pr4 x0 x1 x2 x3, 0) := by
  have f0 := h0.facts
  have f1 := (h0.mul h1).facts
  have f2 := ((h0.mul h1).mul h2.bar).facts
  have f3 := (pr4_sm h0 h1 h2 h3).facts
  rw [step_ok one x0 x0 _ f0.1 (by omega), step_ok x0 x1 _ _ rfl (by omega), step_ok _ (Um.bar x2) _ _ rfl (by omega), step_ok _ (Um.bar x3) _ _ rfl (by have := f3.2.1; unfold pr4 at this; omega)]
  rfl
/-- a link, where one link has a value -/
def lkv (L : List Q) (l : Int) (u : Q) (i : Int) : Q := if i = l then u else lk L i
/-- the unit along a plaquette, where one link has a value -/
def plv (a b c : Int) (L : List Q) (l : Int) (u : Q) (p : Int) : Q :=
  match lks a b c p with
  | [l0, l1, l2, l3] => pr4 (lkv L l u l0) (lkv L l u l1) (lkv L l u l2) (lkv L l u l3)
  | _ => one
def trp (a b c : Int) (L : List Q) (l : Int) (u : Q) (p : Int) : Int := (tr (plv a b c L l u p)).1
/-- the weight of a trace -/
def wat (w : List Int) (t : Int) : Int := w.getD (t + 2).toNat 0
/-- the product of the weights of some plaquettes -/
def wprod (a b c : Int) (L : List Q) (w : List Int) (l : Int) (u : Q) (ps : List Int) : Int := (ps.map fun p => wat w (trp a b c L l u p)).foldl (· * ·) 1
def wval (a b c : Int) (L : List Q) (w : List Int) (l : Int) (u : Q) : Int := wprod a b c L w l u (thr a b c l)
/-- the steps of a plaquette -/
def sta (p : Int) : Int := if p % 3 = 2 then 2 else 1
def stb (p : Int) : Int := if p % 3 = 0 then 2 else 3
theorem sides_all : ∀ a : Fin 4, ∀ b : Fin 4, ∀ c : Fin 4, (a.val+1) * (b.val+1) * (c.val+1) ≤ 16 → ∀ p : Fin (3 * ((a.val+1) * (b.val+1) * (c.val+1))),
    (let A : Int := (a.val + 1 : Nat); let B : Int := (b.val + 1 : Nat); let C : Int := (c.val + 1 : Nat); let P : Int := (p.val : Nat);
     ∀ x0 ∈ [wl A B C (P / 3) [sta P, stb P, -sta P, -stb P]], (x0.length = 5 ∧ lks A B C P = [3 * x0.getD 0 0 + sta P - 1, 3 * x0.getD 1 0 + stb P - 1, 3 * x0.getD 3 0 - (-sta P) - 1, 3 * x0.getD 4 0 - (-stb P) - 1] ∧ ∀ q ∈ lks A B C P, 0 ≤ q ∧ q < 3 * (A * B * C))) := by decide +kernel
/-- where the walk along a plaquette leads, and the links that it goes along -/
theorem sides_eq {a b c p : Int} (h : Sz a b c) (h0 : 0 ≤ p) (h1 : p < 3 * (a * b * c)) : ∃ s0 s1 s2 s3 s4 : Int, wl a b c (p / 3) [sta p, stb p, -sta p, -stb p] = [s0, s1, s2, s3, s4] ∧ lks a b c p = [3 * s0 + sta p - 1, 3 * s1 + stb p - 1, 3 * s3 - (-sta p) - 1, 3 * s4 - (-stb p) - 1] ∧ ∀ q ∈ lks a b c p, 0 ≤ q ∧ q < 3 * (a * b * c) := by
  obtain ⟨a1, a4, b1, b4, c1, c4, hp⟩ := h
  obtain ⟨x, rfl⟩ := Int.eq_ofNat_of_zero_le (show 0 ≤ a - 1 by omega) |>.imp fun x hx => (by omega : a = ((x + 1 : Nat) : Int))
  obtain ⟨y, rfl⟩ := Int.eq_ofNat_of_zero_le (show 0 ≤ b - 1 by omega) |>.imp fun x hx => (by omega : b = ((x + 1 : Nat) : Int))
  obtain ⟨z, rfl⟩ := Int.eq_ofNat_of_zero_le (show 0 ≤ c - 1 by omega) |>.imp fun x hx => (by omega : c = ((x + 1 : Nat) : Int))
  obtain ⟨k, rfl⟩ := Int.eq_ofNat_of_zero_le h0
  have e : (3 : Int) * (((x + 1 : Nat) : Int) * ((y + 1 : Nat) : Int) * ((z + 1 : Nat) : Int)) = ((3 * ((x + 1) * (y + 1) * (z + 1)) : Nat) : Int) := by simp
  rw [e] at h1
  have e2 : (((x + 1 : Nat) : Int) * ((y + 1 : Nat) : Int) * ((z + 1 : Nat) : Int)) = (((x + 1) * (y + 1) * (z + 1) : Nat) : Int) := by simp
  rw [e2] at hp
  have H := sides_all ⟨x, by omega⟩ ⟨y, by omega⟩ ⟨z, by omega⟩ (by exact_mod_cast hp) ⟨k, by exact_mod_cast h1⟩
  have H2 := H _ (List.mem_singleton.2 rfl)
  obtain ⟨hl, hk, hq⟩ := H2
  generalize hW : wl ((x + 1 : Nat) : Int) ((y + 1 : Nat) : Int) ((z + 1 : Nat) : Int) ((k : Int) / 3) [sta (k : Int), stb (k : Int), -sta (k : Int), -stb (k : Int)] = W at *
  match W, hl with
  | [s0, s1, s2, s3, s4], _ => exact ⟨s0, s1, s2, s3, s4, rfl, hk, hq⟩
end Cm
