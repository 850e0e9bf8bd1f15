/- Sums and means of rational numbers, as the program makes them.
Conditions: those written at each theorem. -/
import Derived.Test.YtojmagooapjohaaQuatA
import Derived.Test.YtojmagooapjohaaLoM
import Derived.Test.YtojmagooapjohaaInts
import Derived.Test.YtojmagooapjohaaWlkA
namespace Go.Proofs.Ytojmagooapjohaa
set_option linter.unusedVariables false
set_option linter.unusedSimpArgs false
set_option maxRecDepth 1000000
open Go.RowKit
open Um Tm Lm

theorem tdiv_wrap {x G p : Int} (hG : 0 < G) (e : x = G * p) (hp : 0 ≤ p) (h : p ≤ 4611686018427387904) : IntKind.i64.wrap (x.tdiv G) = p := by
  rw [e, Int.mul_tdiv_cancel_left _ (by omega)]
  exact IntWalk.i64_in _ (by omega)
/-! ### lists of numbers -/
/-- a number in a box -/
structure RB (w : World) (b : Nat) (r : Int × Int) : Prop where
  c0 : w.cell? ⟨b, 0, none⟩ = some (.int .i64 r.1)
  c1 : w.cell? ⟨b, 1, none⟩ = some (.int .i64 r.2)
  free : ∀ j, w.frozen? ⟨b, j, none⟩ = false
  lt : b < w.heap.size
theorem RB.later {w w1 : World} {b : Nat} {r : Int × Int} (h : RB w b r) (hb : Below w.heap.size w w1) : RB w1 b r :=
  ⟨(hb.cell h.lt).trans h.c0, (hb.cell h.lt).trans h.c1, fun j => (hb.frozen (p := ⟨b, j, none⟩) h.lt).trans (h.free j), Nat.lt_of_lt_of_le h.lt hb.size⟩
theorem RB.put {w : World} {b : Nat} {r : Int × Int} (h : RB w b r) (s : Int × Int) : RB ((w.setCell ⟨b, 0, none⟩ (.int .i64 s.1)).setCell ⟨b, 1, none⟩ (.int .i64 s.2)) b s := by
  have h1 : (w.setCell ⟨b, 0, none⟩ (.int .i64 s.1)).cell? ⟨b, 1, none⟩ = some (.int .i64 r.2) := (World.cell?_setCell_other _ _ _ _ (by simp)).trans h.c1
  exact ⟨(World.cell?_setCell_other _ _ _ _ (by simp)).trans (World.cell?_setCell_same _ _ _ h.c0), World.cell?_setCell_same _ _ _ h1, fun j => by simp only [World.frozen?_setCell]; exact h.free j, by simp [World.setCell]; exact h.lt⟩
theorem RB.aside {w : World} {b g : Nat} {r : Int × Int} (h : RB w b r) (hne : b ≠ g) (u v : Value) : RB ((w.setCell ⟨g, 0, none⟩ u).setCell ⟨g, 1, none⟩ v) b r := by
  have n0 : ∀ i j : Nat, (⟨b, i, none⟩ : Addr) ≠ ⟨g, j, none⟩ := fun i j e => hne (congrArg Addr.block e)
  exact ⟨(World.cell?_setCell_other _ _ _ _ (n0 _ _).symm).trans ((World.cell?_setCell_other _ _ _ _ (n0 _ _).symm).trans h.c0), (World.cell?_setCell_other _ _ _ _ (n0 _ _).symm).trans ((World.cell?_setCell_other _ _ _ _ (n0 _ _).symm).trans h.c1), fun j => by simp only [World.frozen?_setCell]; exact h.free j, by simp [World.setCell]; exact h.lt⟩
def rl (l : List (Int × Int)) : List Int := l.flatMap fun r => [r.1, r.2]
theorem rl_len (l : List (Int × Int)) : (rl l).length = l.length * 2 := by
  induction l with
  | nil => rfl
  | cons r l ih => unfold rl at ih ⊢; rw [List.flatMap_cons, List.length_append, ih, List.length_cons]; simp <;> omega
theorem rl_get (l : List (Int × Int)) (k : Nat) (h : k < l.length) : (rl l)[k * 2]? = some l[k].1 ∧ (rl l)[k * 2 + 1]? = some l[k].2 := by
  induction l generalizing k with
  | nil => simp at h
  | cons r l ih =>
    have e : rl (r :: l) = r.1 :: r.2 :: rl l := by simp [rl]
    rw [e]
    cases k with
    | zero => exact ⟨rfl, rfl⟩
    | succ k =>
      have := ih k (by simpa using h)
      rw [show (k + 1) * 2 = k * 2 + 1 + 1 by omega]
      simpa using this
theorem rl_at {w : World} {ao : Option Addr} {l : List (Int × Int)} (h : LiesOI w ao (rl l)) {k : Nat} (hk : k < l.length) : ∃ b off, ao = some ⟨b, off, none⟩ ∧ w.cell? ⟨b, off + k * 2, none⟩ = some (.int .i64 l[k].1) ∧ w.cell? ⟨b, off + k * 2 + 1, none⟩ = some (.int .i64 l[k].2) := by
  obtain ⟨g0, g1⟩ := rl_get l k hk
  rcases h with h | ⟨b, off, rfl, h⟩
  · rw [h] at g0; simp at g0
  · exact ⟨b, off, rfl, h _ _ g0, h _ _ g1⟩
theorem acR_all (l : List (Int × Int)) : acR (l.take l.length) = acR l := by rw [List.take_length]
end Go.Proofs.Ytojmagooapjohaa

/- Sums of rational numbers over their least common denominator, as the document's answers make them.
Conditions: those written at each theorem. -/
namespace Go.Proofs.Ytojmagooapjohaa
set_option linter.unusedVariables false
set_option linter.unusedSimpArgs false
set_option maxRecDepth 1000000
open Go.RowKit
open Um Tm Lm

structure LcS (m d p : Int) : Prop where
  g0 : 0 < gc m d
  e : m = gc m d * p
  p0 : 0 ≤ p
  pM : p ≤ MM
  m0 : 0 < m
  mM : m ≤ MM
  d0 : 0 < d
  dM : d ≤ MM
  q0 : 0 < p * d
  qM : p * d ≤ MM
theorem lcm_step {k : Int} {l : List (Int × Int)} (h : ∀ r ∈ l, Rt k r) (i : Nat) (hi : i < l.length) : ∃ p, LcS (lcmR (l.take i)) l[i].2 p ∧ p * l[i].2 = lcmR (l.take (i + 1)) := by
  have c0 := cm_take h i (by omega)
  have c1 := cm_take h (i + 1) (by omega)
  have hr := h _ (List.getElem_mem hi)
  have e := lcmR_take l i hi
  have hd : gc (lcmR (l.take i)) l[i].2 ∣ lcmR (l.take i) := Int.ofNat_dvd_left.2 (Nat.gcd_dvd_left _ _)
  have hg : 0 < gc (lcmR (l.take i)) l[i].2 := gc_pos _ _ hr.pos
  have hge : (Nat.gcd (lcmR (l.take i)).natAbs l[i].2.natAbs : Int) = gc (lcmR (l.take i)) l[i].2 := rfl
  rw [hge] at e
  obtain ⟨p, hp⟩ := hd
  have m0 := c0.pos
  have mM := Int.le_of_dvd MM_pos c0.dvd
  have q0 := c1.pos
  have qM := Int.le_of_dvd MM_pos c1.dvd
  have d0 := hr.pos
  have dM := Int.le_of_dvd MM_pos hr.dvd
  have ep : lcmR (l.take i) / gc (lcmR (l.take i)) l[i].2 = p := by
    generalize gc (lcmR (l.take i)) l[i].2 = G at *
    rw [hp]
    exact Int.mul_ediv_cancel_left _ (by omega)
  rw [ep] at e
  have p0 : 0 < p := by
    generalize gc (lcmR (l.take i)) l[i].2 = G at *
    rw [hp] at m0
    exact Int.pos_of_mul_pos_right m0 (by omega)
  have pM : p ≤ MM := by
    have : p ≤ p * l[i].2 := by have := Int.mul_le_mul_of_nonneg_left (show 1 ≤ l[i].2 by omega) (Int.le_of_lt p0); omega
    omega
  exact ⟨p, ⟨hg, hp, by omega, pM, m0, mM, d0, dM, by omega, by omega⟩, e.symm⟩
structure SmS (m k s : Int) (r : Int × Int) (u : Int) : Prop where
  d0 : 0 < r.2
  e : m = r.2 * u
  u0 : 0 ≤ u
  uM : u ≤ MM
  x0 : -(k * MM) ≤ r.1 * u
  x1 : r.1 * u ≤ k * MM
  s0 : -(k * MM * 48) ≤ s
  s1 : s ≤ k * MM * 48
theorem sum_bnd {k m : Int} (hk : 0 ≤ k) {l : List (Int × Int)} (hc : Cm m l) (h : ∀ r ∈ l, Rt k r) (hn : l.length ≤ 48) (i : Nat) : -(k * MM * 48) ≤ sumA m (l.take i) ∧ sumA m (l.take i) ≤ k * MM * 48 := by
  have h1 := sumA_rng hc.pos (l := l.take i) fun r hr => ⟨h r (List.mem_of_mem_take hr), hc.all r (List.mem_of_mem_take hr)⟩
  have mM := Int.le_of_dvd MM_pos hc.dvd
  have hp := hc.pos
  have h2 : ((l.take i).length : Int) ≤ 48 := by have := List.length_take_le' i l; omega
  have h3 : k * m * ((l.take i).length : Int) ≤ k * m * 48 := Int.mul_le_mul_of_nonneg_left h2 (Int.mul_nonneg hk (by omega))
  have h4 : k * m ≤ k * MM := Int.mul_le_mul_of_nonneg_left mM hk
  omega
theorem sum_step {k m : Int} (hk : 0 ≤ k) {l : List (Int × Int)} (hc : Cm m l) (h : ∀ r ∈ l, Rt k r) (hn : l.length ≤ 48) (i : Nat) (hi : i < l.length) : ∃ u, SmS m k (sumA m (l.take i)) l[i] u ∧ sumA m (l.take i) + l[i].1 * u = sumA m (l.take (i + 1)) := by
  have hr := h _ (List.getElem_mem hi)
  have hd := hc.all _ (List.getElem_mem hi)
  have hw := wtA_rng hc.pos hr hd
  have hb := sum_bnd hk hc h hn i
  have mM := Int.le_of_dvd MM_pos hc.dvd
  have m0 := hc.pos
  have h4 : k * m ≤ k * MM := Int.mul_le_mul_of_nonneg_left mM hk
  have e := sumA_take m l i hi
  obtain ⟨u, hu⟩ := hd
  have d0 := hr.pos
  have eu : m / l[i].2 = u := by
    generalize l[i].2 = d at *
    rw [hu]
    exact Int.mul_ediv_cancel_left _ (by omega)
  unfold wtA at hw e
  rw [eu] at hw e
  have u0 : 0 < u := by rw [hu] at m0; exact Int.pos_of_mul_pos_right m0 (by omega)
  have uM : u ≤ MM := by
    have : u ≤ l[i].2 * u := by have := Int.mul_le_mul_of_nonneg_right (show 1 ≤ l[i].2 by omega) (Int.le_of_lt u0); omega
    omega
  exact ⟨u, ⟨d0, hu, by omega, uM, by omega, by omega, hb.1, hb.2⟩, e.symm⟩
theorem quiet_below {w w1 w2 : World} (h : Below w.heap.size w w1) (h2 : Below w1.heap.size w1 w2) : Below w.heap.size w w2 := h.trans (h2.mono h.size)
end Go.Proofs.Ytojmagooapjohaa
