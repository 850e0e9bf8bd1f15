/- Plain mathematics of small units along plaquettes: the sides of a plaquette, its trace if a link has a value, and the weight of a value; no Go.
Conditions: none. -/
import Derived.Test.YtpfhjdmgkckjfaaGreatDoorAThrM
import Derived.Test.YtpfhjdmgkckjfaaGreatDoorAMathA
import Derived.Test.YtpfhjdmgkckjfaaGreatDoorAShelf
import Derived.Lib.OwnBridge
import Derived.Test.YtpfhjdmgkckjfaaGreatDoorADraws
import Derived.Test.YtpfhjdmgkckjfaaGreatDoorAFieldC
import Derived.Test.YtpfhjdmgkckjfaaGreatDoorAWlkA
set_option autoImplicit false
namespace Cm
set_option linter.unusedVariables false
set_option linter.unusedSimpArgs false
open Tm Um
/-- a small unit -/
def Sm (x : Q) : Prop := ∃ k : Nat, k < 24 ∧ x = small k
theorem smul_all : ∀ k : Nat, k < 24 → ∀ m : Nat, m < 24 → ∃ j : Nat, j < 24 ∧ low (mul (small k) (small m)) = small j := by decide +kernel
theorem sbar_all : ∀ k : Nat, k < 24 → ∃ j : Nat, j < 24 ∧ bar (small k) = small j := by decide +kernel
theorem sone_all : ∀ k : Nat, k < 24 → low (mul one (small k)) = small k ∧ (small k).n ≤ 2 ∧ 1 ≤ (small k).n ∧ (tr (small k)).2 = 1 ∧ -2 ≤ (tr (small k)).1 ∧ (tr (small k)).1 ≤ 2 ∧ (2 * (small k).a).tdiv (small k).n = (tr (small k)).1 := by decide +kernel
theorem sin_all : ∀ k : Nat, k < 24 → -1 ≤ (small k).a ∧ (small k).a ≤ 1 ∧ -1 ≤ (small k).b ∧ (small k).b ≤ 1 ∧ -1 ≤ (small k).c ∧ (small k).c ≤ 1 ∧ -1 ≤ (small k).d ∧ (small k).d ≤ 1 := by decide +kernel
theorem Sm.mul {x y : Q} (hx : Sm x) (hy : Sm y) : Sm (low (Um.mul x y)) := by
  obtain ⟨k, hk, rfl⟩ := hx
  obtain ⟨m, hm, rfl⟩ := hy
  obtain ⟨j, hj, h⟩ := smul_all k hk m hm
  exact ⟨j, hj, h⟩
theorem Sm.bar {x : Q} (hx : Sm x) : Sm (Um.bar x) := by
  obtain ⟨k, hk, rfl⟩ := hx
  obtain ⟨j, hj, h⟩ := sbar_all k hk
  exact ⟨j, hj, h⟩
theorem Sm.v {x : Q} (hx : Sm x) : V x := by
  obtain ⟨k, hk, rfl⟩ := hx
  have h := small_v k hk
  have h2 := small_ok k hk
  exact ⟨⟨h.2.2, h.2.1⟩, h.1, by rcases h2 with h2 | h2 <;> omega⟩
theorem Sm.facts {x : Q} (hx : Sm x) : low (Um.mul one x) = x ∧ x.n ≤ 2 ∧ 1 ≤ x.n ∧ (tr x).2 = 1 ∧ -2 ≤ (tr x).1 ∧ (tr x).1 ≤ 2 ∧ (2 * x.a).tdiv x.n = (tr x).1 := by
  obtain ⟨k, hk, rfl⟩ := hx
  exact sone_all k hk
theorem Sm.ins {x : Q} (hx : Sm x) : (-1 ≤ x.a ∧ x.a ≤ 1) ∧ (-1 ≤ x.b ∧ x.b ≤ 1) ∧ (-1 ≤ x.c ∧ x.c ≤ 1) ∧ (-1 ≤ x.d ∧ x.d ≤ 1) := by
  obtain ⟨k, hk, rfl⟩ := hx
  have := sin_all k hk
  exact ⟨⟨this.1, this.2.1⟩, ⟨this.2.2.1, this.2.2.2.1⟩, ⟨this.2.2.2.2.1, this.2.2.2.2.2.1⟩, this.2.2.2.2.2.2⟩
/-- the unit along two links and back along two -/
def pr4 (x0 x1 x2 x3 : Q) : Q := low (Um.mul (low (Um.mul (low (Um.mul x0 x1)) (Um.bar x2))) (Um.bar x3))
theorem pr4_sm {x0 x1 x2 x3 : Q} (h0 : Sm x0) (h1 : Sm x1) (h2 : Sm x2) (h3 : Sm x3) : Sm (pr4 x0 x1 x2 x3) := ((h0.mul h1).mul h2.bar).mul h3.bar
theorem pr4_from {x0 x1 x2 x3 : Q} (h0 : Sm x0) (h1 : Sm x1) (h2 : Sm x2) (h3 : Sm x3) : prodFrom one [x0, x1, Um.bar x2, Um.bar x3] = (pr4 x0 x1 x2 x3, 0) := by
  have f0 := h0.facts
  have f1 := (h0.mul h1).facts
  have f2 := ((h0.mul h1).mul h2.bar).facts
  have f3 := (pr4_sm h0 h1 h2 h3).facts
  rw [step_ok one x0 x0 _ f0.1 (by omega), step_ok x0 x1 _ _ rfl (by omega), step_ok _ (Um.bar x2) _ _ rfl (by omega), step_ok _ (Um.bar x3) _ _ rfl (by have := f3.2.1; unfold pr4 at this; omega)]
  rfl
/-- a link, where one link has a value -/
def lkv (L : List Q) (l : Int) (u : Q) (i : Int) : Q := if i = l then u else lk L i
/-- the unit along a plaquette, where one link has a value -/
def plv (a b c : Int) (L : List Q) (l : Int) (u : Q) (p : Int) : Q :=
  match lks a b c p with
  | [l0, l1, l2, l3] => pr4 (lkv L l u l0) (lkv L l u l1) (lkv L l u l2) (lkv L l u l3)
  | _ => one
def trp (a b c : Int) (L : List Q) (l : Int) (u : Q) (p : Int) : Int := (tr (plv a b c L l u p)).1
/-- the weight of a trace -/
def wat (w : List Int) (t : Int) : Int := w.getD (t + 2).toNat 0
/-- the product of the weights of some plaquettes -/
def wprod (a b c : Int) (L : List Q) (w : List Int) (l : Int) (u : Q) (ps : List Int) : Int := (ps.map fun p => wat w (trp a b c L l u p)).foldl (· * ·) 1
def wval (a b c : Int) (L : List Q) (w : List Int) (l : Int) (u : Q) : Int := wprod a b c L w l u (thr a b c l)
/-- the steps of a plaquette -/
def sta (p : Int) : Int := if p % 3 = 2 then 2 else 1
def stb (p : Int) : Int := if p % 3 = 0 then 2 else 3
theorem sides_all : ∀ a : Fin 4, ∀ b : Fin 4, ∀ c : Fin 4, (a.val+1) * (b.val+1) * (c.val+1) ≤ 16 → ∀ p : Fin (3 * ((a.val+1) * (b.val+1) * (c.val+1))),
    (let A : Int := (a.val + 1 : Nat); let B : Int := (b.val + 1 : Nat); let C : Int := (c.val + 1 : Nat); let P : Int := (p.val : Nat);
     ∀ x0 ∈ [wl A B C (P / 3) [sta P, stb P, -sta P, -stb P]], (x0.length = 5 ∧ lks A B C P = [3 * x0.getD 0 0 + sta P - 1, 3 * x0.getD 1 0 + stb P - 1, 3 * x0.getD 3 0 - (-sta P) - 1, 3 * x0.getD 4 0 - (-stb P) - 1] ∧ ∀ q ∈ lks A B C P, 0 ≤ q ∧ q < 3 * (A * B * C))) := by decide +kernel
/-- where the walk along a plaquette leads, and the links that it goes along -/
theorem sides_eq {a b c p : Int} (h : Sz a b c) (h0 : 0 ≤ p) (h1 : p < 3 * (a * b * c)) : ∃ s0 s1 s2 s3 s4 : Int, wl a b c (p / 3) [sta p, stb p, -sta p, -stb p] = [s0, s1, s2, s3, s4] ∧ lks a b c p = [3 * s0 + sta p - 1, 3 * s1 + stb p - 1, 3 * s3 - (-sta p) - 1, 3 * s4 - (-stb p) - 1] ∧ ∀ q ∈ lks a b c p, 0 ≤ q ∧ q < 3 * (a * b * c) := by
  obtain ⟨a1, a4, b1, b4, c1, c4, hp⟩ := h
  obtain ⟨x, rfl⟩ := Int.eq_ofNat_of_zero_le (show 0 ≤ a - 1 by omega) |>.imp fun x hx => (by omega : a = ((x + 1 : Nat) : Int))
  obtain ⟨y, rfl⟩ := Int.eq_ofNat_of_zero_le (show 0 ≤ b - 1 by omega) |>.imp fun x hx => (by omega : b = ((x + 1 : Nat) : Int))
  obtain ⟨z, rfl⟩ := Int.eq_ofNat_of_zero_le (show 0 ≤ c - 1 by omega) |>.imp fun x hx => (by omega : c = ((x + 1 : Nat) : Int))
  obtain ⟨k, rfl⟩ := Int.eq_ofNat_of_zero_le h0
  have e : (3 : Int) * (((x + 1 : Nat) : Int) * ((y + 1 : Nat) : Int) * ((z + 1 : Nat) : Int)) = ((3 * ((x + 1) * (y + 1) * (z + 1)) : Nat) : Int) := by simp
  rw [e] at h1
  have e2 : (((x + 1 : Nat) : Int) * ((y + 1 : Nat) : Int) * ((z + 1 : Nat) : Int)) = (((x + 1) * (y + 1) * (z + 1) : Nat) : Int) := by simp
  rw [e2] at hp
  have H := sides_all ⟨x, by omega⟩ ⟨y, by omega⟩ ⟨z, by omega⟩ (by exact_mod_cast hp) ⟨k, by exact_mod_cast h1⟩
  have H2 := H _ (List.mem_singleton.2 rfl)
  obtain ⟨hl, hk, hq⟩ := H2
  generalize hW : wl ((x + 1 : Nat) : Int) ((y + 1 : Nat) : Int) ((z + 1 : Nat) : Int) ((k : Int) / 3) [sta (k : Int), stb (k : Int), -sta (k : Int), -stb (k : Int)] = W at *
  match W, hl with
  | [s0, s1, s2, s3, s4], _ => exact ⟨s0, s1, s2, s3, s4, rfl, hk, hq⟩
end Cm

namespace Go.Proofs.YtpfhjdmgkckjfaaGreatDoor
set_option linter.unusedVariables false
set_option linter.unusedSimpArgs false
set_option maxRecDepth 1000000
open Go.RowKit Go.Sort
open Cm

theorem below_grow {B : Nat} {w0 w : World} (h : Below B w0 w) (hB : B ≤ w.heap.size) (os : Array Obj) : Below B w0 (grow w os) :=
  ⟨h.os, h.tape, h.output, by rw [size_grow]; exact Nat.le_trans h.size (Nat.le_add_right _ _), fun k hk => by
    rw [← h.block k hk, heap_grow_old _ _ (by omega)]⟩
theorem sort_own (base g cap : Nat) (zs : List Int) (w : World) (h : w.ownsRow base 3 1 (.slice (some ⟨g, 0, none⟩) zs.length cap) zs.length (zs.map vi)) (hlen : zs.length ≤ 1000) :
    Calls Tryz.prog 75 #[.slice (some ⟨g, 0, none⟩) zs.length cap] w fun e w' => e = .returned (.tuple #[]) ∧ w'.ownsRow base 3 1 (.slice (some ⟨g, 0, none⟩) zs.length cap) zs.length ((isort zs).map vi) ∧ ∀ B w0, Below B w0 w → B ≤ g → Below B w0 w' := by
  obtain ⟨g', cap', he, hb, hlt, hn, hm, hl, hH⟩ := Lib.holds_of_ownsRow (enc := vi) h (by simp)
  simp only [Value.slice.injEq, Option.some.injEq, Addr.mk.injEq, and_true, true_and] at he
  obtain ⟨rfl, rfl⟩ := he
  refine (Tryz.slices_Sort_int g 0 cap zs w hH hlt (by omega)).mono ?_
  rintro e w' ⟨rfl, n, os, rfl⟩
  rw [merge_isort]
  have hli : (isort zs).length = zs.length := (isort_perm zs).length_eq
  have k := Lib.ownsRow_putRow (enc := vi) (q := n) h hli (Nat.le_refl _)
  rw [List.take_of_length_le (by omega)] at k
  refine ⟨rfl, owned_later k (below_grow (Below.refl _ _) (Nat.le_refl _) os), fun B w0 hB hBg => below_grow (Lib.below_putRow hB hBg) ?_ os⟩
  have := hB.size
  rw [size_putRow]
  exact Nat.le_trans hBg (Nat.le_of_lt hlt)
theorem compact_own (base g cap n : Nat) (zs : List Int) (w : World) (h : w.ownsRow base 3 1 (.slice (some ⟨g, 0, none⟩) n cap) n (zs.map vi)) (hzn : zs.length = n) (hlen : zs.length ≤ 1000) :
    Calls Tryz.prog 76 #[.slice (some ⟨g, 0, none⟩) n cap] w fun e w' => e = .returned (.slice (some ⟨g, 0, none⟩) (Lib.compact zs).length cap) ∧ LiesI w' g 0 (Lib.compact zs) ∧ ∀ B w0, Below B w0 w → B ≤ g → Below B w0 w' := by
  subst hzn
  obtain ⟨g', cap', he, hb, hlt, hn, hm, hl, hH⟩ := Lib.holds_of_ownsRow (enc := vi) h (by simp)
  simp only [Value.slice.injEq, Option.some.injEq, Addr.mk.injEq, and_true, true_and] at he
  obtain ⟨rfl, rfl⟩ := he
  refine (Tryz.slices_Compact_int g 0 cap zs w hH (by omega) hn).mono ?_
  rintro e w' ⟨rfl, q, rfl⟩
  have hcl : (Lib.compact zs).length ≤ zs.length := by
    unfold Lib.compact Lib.compactUpTo
    rw [List.length_map]
    exact Nat.le_trans (List.length_filter_le _ _) (by simp)
  refine ⟨rfl, ?_, fun B w0 hB hBg => Lib.below_putRow hB hBg⟩
  have k := Lib.ownsRow_putRow (enc := vi) (q := q) (k := (Lib.compact zs).length) (ys := Lib.compact zs ++ List.replicate (zs.length - (Lib.compact zs).length) 0) h (by simp; omega) hcl
  rw [List.take_left] at k
  exact owned_liesI k
end Go.Proofs.YtpfhjdmgkckjfaaGreatDoor

namespace Go.Proofs.YtpfhjdmgkckjfaaGreatDoor
set_option linter.unusedVariables false
set_option linter.unusedSimpArgs false
set_option maxRecDepth 1000000
open Go.RowKit
open Um Tm

/-- the error of a field, a site and a direction -/
def lnR (a b c : Int) (L : List Q) (s d r : Int) : Prop := (fldR a b c L r ∧ r ≠ 0) ∨ (fldR a b c L 0 ∧ ¬ (0 ≤ s ∧ s < a * b * c) ∧ r = 4) ∨ (fldR a b c L 0 ∧ 0 ≤ s ∧ s < a * b * c ∧ ¬ (0 ≤ d ∧ d ≤ 2) ∧ r = 1) ∨ (fldR a b c L 0 ∧ 0 ≤ s ∧ s < a * b * c ∧ 0 ≤ d ∧ d ≤ 2 ∧ r = 0)
end Go.Proofs.YtpfhjdmgkckjfaaGreatDoor

namespace Go.Proofs.YtpfhjdmgkckjfaaGreatDoor
set_option linter.unusedVariables false
set_option linter.unusedSimpArgs false
set_option maxRecDepth 1000000
open Go.RowKit
open Um Tm

/-- the error of a field and a list of units, one at each site -/
def gaR (a b c : Int) (L G : List Q) (r : Int) : Prop := (fldR a b c L r ∧ r ≠ 0) ∨ (fldR a b c L 0 ∧ 3 * G.length ≠ L.length ∧ r = 1) ∨ (fldR a b c L 0 ∧ 3 * G.length = L.length ∧ LinksR G r)
end Go.Proofs.YtpfhjdmgkckjfaaGreatDoor

namespace Go.Proofs.YtpfhjdmgkckjfaaGreatDoor
set_option linter.unusedVariables false
set_option linter.unusedSimpArgs false
set_option maxRecDepth 1000000
open Go.RowKit
open Cm

def stepR (s r e : Int) : Prop := (IsSeed s ∧ r = nxt s ∧ e = 0) ∨ (¬ IsSeed s ∧ r = 0 ∧ e = 1)
set_option maxHeartbeats 400000 in
theorem step_any (s r er : Int) (w : World) (h : stepR s r er) : Calls Tryz.prog 34 #[.int .i64 s] w fun e w' => e = .returned (.tuple #[.int .i64 r, .int .i64 er]) ∧ w = w' := by
  rcases h with ⟨h, rfl, rfl⟩ | ⟨h, rfl, rfl⟩
  · have c1 := fun W : World => checkSeed_any s 0 W (.inl ⟨h, rfl⟩)
    have c2 := fun W : World => chNext_any s W h
    clear h
    go_enter Tryz.func34, Tryz.ntmps34
    go_wp2_with (first | ((with_reducible refine (c1 _).mono ?_); rintro e w1 ⟨rfl, rfl⟩) | ((with_reducible refine (c2 _).mono ?_); rintro e w1 ⟨rfl, rfl⟩))
    go_ret2
    exact ⟨rfl, rfl⟩
  · have c1 := fun W : World => checkSeed_any s 1 W (.inr ⟨h, rfl⟩)
    clear h
    go_enter Tryz.func34, Tryz.ntmps34
    go_wp2_with ((with_reducible refine (c1 _).mono ?_); rintro e w1 ⟨rfl, rfl⟩)
    go_ret2
    exact ⟨rfl, rfl⟩
def drawR (s n d t e : Int) : Prop := (IsSeed s ∧ (1 ≤ n ∧ n ≤ 1099511627776) ∧ d = drw s n ∧ t = adv s ∧ e = 0) ∨ (IsSeed s ∧ ¬ (1 ≤ n ∧ n ≤ 1099511627776) ∧ d = 0 ∧ t = 0 ∧ e = 1) ∨ (¬ IsSeed s ∧ d = 0 ∧ t = 0 ∧ e = 1)
end Go.Proofs.YtpfhjdmgkckjfaaGreatDoor
