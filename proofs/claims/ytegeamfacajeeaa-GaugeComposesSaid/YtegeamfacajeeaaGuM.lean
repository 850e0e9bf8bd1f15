/- Two gauge transformations, one behind the other: mathematics; and the answers of Compose.
Conditions: those written at each theorem. -/
import Derived.Test.YtegeamfacajeeaaGsC
namespace Go.Proofs.Ytegeamfacajeeaa
set_option linter.unusedVariables false
set_option linter.unusedSimpArgs false
set_option maxRecDepth 1000000
open Go.RowKit
open Um Tm

/-- the units of two transformations' product -/
def coL (G H : List Q) : List Q := (List.range G.length).map fun (k : Nat) => low (mul (lk G (k : Int)) (lk H (k : Int)))
theorem coL_len (G H : List Q) : (coL G H).length = G.length := by simp [coL]
theorem coL_get {G H : List Q} {k : Nat} (hk : k < G.length) : (coL G H)[k]? = some (low (mul (lk G (k : Int)) (lk H (k : Int)))) := by
  simp [coL, hk]
theorem coL_lk {G H : List Q} {i : Int} (h0 : 0 ≤ i) (h1 : i < (G.length : Int)) : lk (coL G H) i = low (mul (lk G i) (lk H i)) := by
  have h2 := lk_get (L := coL G H) h0 (by rw [coL_len]; exact h1)
  rw [coL_get (by omega), show ((i.toNat : Nat) : Int) = i by omega] at h2
  exact (Option.some.inj h2).symm
theorem co_mul {g h x h' g' : Q} (ug : U g) (uh : U h) (ux : U x) (uh' : U h') (ug' : U g') : low (mul (mul g (low (mul (mul h x) (bar h')))) (bar g')) = low (mul (mul (low (mul g h)) x) (bar (low (mul g' h')))) := by
  have h1 : 0 < (mul (mul h x) (bar h')).n := (mul_len _ _ (mul_len _ _ uh ux) (bar_len _ uh')).pos
  have hA : 0 < (mul g h).n := (mul_len _ _ ug uh).pos
  have hM : 0 < (mul g' h').n := (mul_len _ _ ug' uh').pos
  have hB : 0 < (bar (mul g' h')).n := (bar_len _ (mul_len _ _ ug' uh')).pos
  have e1 : bar (low (mul g' h')) = low (bar (mul g' h')) := (Tm.low_bar _ hM).symm
  rw [low_mid _ _ _ h1, e1, low_mul_right _ _ hB, mul_assoc (low (mul g h)), low_mul_left _ _ hA, bar_mul']
  congr 1
  simp only [mul_assoc]
theorem tf_co {a b c : Int} {L G H : List Q} (hF : Fl a b c L) (hG : Gg L G) (hH : Gg L H) : tfL a b c (tfL a b c L H) G = tfL a b c L (coL G H) := by
  have hn := hF.n
  have hgn := hG.n
  have hhn := hH.n
  apply List.ext_getElem?
  intro i
  by_cases hi : i < L.length
  · rw [tfL_get (by rw [tfL_len]; exact hi), tfL_get hi]
    congr 1
    obtain ⟨t0, t1⟩ := ahd_rng hF.z i
    have e3 : lk (tfL a b c L H) (i : Int) = tfK a b c L H i := by
      have := lk_at (L := tfL a b c L H) (i := i) (by rw [tfL_len]; exact hi)
      rw [tfL_get hi] at this
      exact (Option.some.inj this).symm
    rw [tfK, tfK, e3, coL_lk (i := ((i / 3 : Nat) : Int)) (by omega) (by omega), coL_lk (i := ahd a b c i) t0 (by omega), tfK]
    exact co_mul (hG.v _ _ (lk_at (L := G) (i := i / 3) (by omega))).1.u (hH.v _ _ (lk_at (L := H) (i := i / 3) (by omega))).1.u (hF.v _ _ (lk_at hi)).1.u (hH.v _ _ (lk_get (L := H) t0 (by omega))).1.u (hG.v _ _ (lk_get (L := G) t0 (by omega))).1.u
  · rw [List.getElem?_eq_none (by rw [tfL_len, tfL_len]; omega), List.getElem?_eq_none (by rw [tfL_len]; omega)]
theorem co_V {L G H : List Q} (hG : Gg L G) (hH : Gg L H) {k : Nat} (hk : k < G.length) : V (low (mul (lk G (k : Int)) (lk H (k : Int)))) := by
  have hgn := hG.n
  have hhn := hH.n
  have h2 := mul_bnd5 (hG.v _ _ (lk_at hk)) (hH.v _ _ (lk_at (L := H) (i := k) (by omega)))
  exact V.of_low h2.1 (by have := low_le _ h2.1.pos; omega)
theorem co_Gg {L G H : List Q} (hG : Gg L G) (hH : Gg L H) (hl : Lim (coL G H)) : Gg L (coL G H) := ⟨by rw [coL_len]; exact hG.n, fun i x hx => by
  have hi : i < G.length := by have := (List.getElem?_eq_some_iff.1 hx).1; rwa [coL_len] at this
  have h5 := hl i x hx
  rw [coL_get hi] at hx
  have := Option.some.inj hx
  subst this
  exact ⟨co_V hG hH hi, h5⟩⟩
end Go.Proofs.Ytegeamfacajeeaa
