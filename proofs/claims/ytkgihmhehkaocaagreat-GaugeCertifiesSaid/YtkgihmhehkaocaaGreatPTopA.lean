/- A field that is transformed and transformed back, and the answers of Transform.
Conditions: those written at each theorem. -/
import Derived.Test.YtkgihmhehkaocaaGreatPGauC
import Derived.Test.YtkgihmhehkaocaaGreatPGauG
import Derived.Test.YtkgihmhehkaocaaGreatPHwC
import Derived.Test.YtkgihmhehkaocaaGreatPAlongC
import Derived.Test.YtkgihmhehkaocaaGreatPGauF
import Derived.Test.YtkgihmhehkaocaaGreatPIBox
import Derived.Test.YtkgihmhehkaocaaGreatPQuatA
import Derived.Scope
import Derived.ScopeJumps
import Derived.WalkMore
namespace Go.Proofs.YtkgihmhehkaocaaGreat
set_option linter.unusedVariables false
set_option linter.unusedSimpArgs false
set_option maxRecDepth 1000000
open Go.RowKit
open Um Tm

theorem fld_pos1 {a b c : Int} {L : List Q} (h : fldR a b c L 0) : 0 < L.length := by
  have hz := (fldR_ok h).1
  have hn := (fldR_ok h).2.1
  obtain ⟨-, -, p3, -⟩ := mul_rng hz.a1 hz.a4 hz.b1 hz.b4 hz.c1 hz.c4
  omega
theorem liesO_one {w : World} {ao : Option Addr} {L : List Q} (h : LiesO w ao L) (hp : 0 < L.length) : ∃ b f, ao = some ⟨b, f, none⟩ ∧ Lies w b f L := by
  rcases h with h | h
  · rw [h] at hp; exact absurd hp (by simp)
  · exact h
theorem low_mid (x M z : Q) (h : 0 < M.n) : low (mul (mul x (low M)) z) = low (mul (mul x M) z) := by
  have hg := g_pos M h
  have e : mul (mul x M) z = scale (g M) (mul (mul x (low M)) z) := by
    rw [← scale_mul, ← mul_scale, scale_low]
  rw [e, low_scale _ _ hg]
theorem tf_back {x y z : Q} (hx : U x) (hy : V y) (hz : U z) : low (mul (mul (bar x) (low (mul (mul x y) (bar z)))) (bar (bar z))) = y := by
  have hM : 0 < (mul (mul x y) (bar z)).n := (mul_len _ _ (mul_len _ _ hx hy.u) (bar_len _ hz)).pos
  rw [low_mid _ _ _ hM, bar_bar]
  have e : mul (mul (bar x) (mul (mul x y) (bar z))) z = scale (z.n * z.n) (scale (x.n * x.n) y) := by
    rw [← mul_assoc (bar x) (mul x y) (bar z), ← mul_assoc (bar x) x y, bar_mul x hx, scale_mul, one_mul', mul_assoc (scale (x.n * x.n) y) (bar z) z, bar_mul z hz, mul_scale, mul_one']
  have px := hx.pos
  have pz := hz.pos
  rw [e, low_scale _ _ (Int.mul_pos pz pz), low_scale _ _ (Int.mul_pos px px), hy.low]
theorem tf_tf {a b c : Int} {L G : List Q} (hF : Fl a b c L) (hG : Gg L G) : tfL a b c (tfL a b c L G) (G.map bar) = L := by
  have hn := hF.n
  have hgn := hG.n
  apply List.ext_getElem?
  intro i
  by_cases hi : i < L.length
  · rw [tfL_get (by rw [tfL_len]; exact hi), lk_at hi]
    congr 1
    obtain ⟨t0, t1⟩ := ahd_rng hF.z i
    have hx := lk_at (L := G) (i := i / 3) (by omega)
    have hz := lk_get (L := G) (i := ahd a b c i) t0 (by omega)
    have e1 : lk (G.map bar) ((i / 3 : Nat) : Int) = bar (lk G ((i / 3 : Nat) : Int)) := by
      have := lk_at (L := G.map bar) (i := i / 3) (by rw [List.length_map]; omega)
      rw [List.getElem?_map, hx] at this
      exact (Option.some.inj this).symm
    have e2 : lk (G.map bar) (ahd a b c i) = bar (lk G (ahd a b c i)) := by
      have := lk_get (L := G.map bar) (i := ahd a b c i) t0 (by rw [List.length_map]; omega)
      rw [List.getElem?_map, hz] at this
      exact (Option.some.inj this).symm
    have e3 : lk (tfL a b c L G) (i : Int) = tfK a b c L G i := by
      have := lk_at (L := tfL a b c L G) (i := i) (by rw [tfL_len]; exact hi)
      rw [tfL_get hi] at this
      exact (Option.some.inj this).symm
    rw [tfK, e1, e2, e3, tfK]
    exact tf_back (hG.v _ _ hx).1.u (hF.v _ _ (lk_at hi)).1 (hG.v _ _ hz).1.u
  · rw [List.getElem?_eq_none (by rw [tfL_len, tfL_len]; omega), List.getElem?_eq_none (by omega)]
/-- Transform where the field is not too great, and where it is -/
theorem gaT_lim (a b c : Int) (bl off gl goff cap gc : Nat) (L G : List Q) (w : World) (h : Lies w bl off L) (hg : Lies w gl goff G) (hr : gaR a b c L G 0) (hl : Lim (tfL a b c L G)) : Calls Tryz.prog 14 #[.agg #[.int .i64 a, .int .i64 b, .int .i64 c, .slice (some ⟨bl, off, none⟩) L.length cap], .slice (some ⟨gl, goff, none⟩) G.length gc] w fun e w' => (∃ g k : Nat, e = .returned (.tuple #[.agg #[.int .i64 a, .int .i64 b, .int .i64 c, .slice (some ⟨g, 0, none⟩) L.length k], .int .i64 0]) ∧ LBox w' g (tfL a b c L G)) ∧ Below w.heap.size w w' :=
  (gaT_ok a b c bl off gl goff cap gc L G w h hg hr).mono fun e w' ⟨hr, hb⟩ => ⟨by
    rcases hr with ⟨_, g, k, h1, h2, -⟩ | ⟨h, _⟩
    · exact ⟨g, k, h1, h2⟩
    · exact absurd hl h, hb⟩
theorem gaT_not (a b c : Int) (bl off gl goff cap gc : Nat) (L G : List Q) (w : World) (h : Lies w bl off L) (hg : Lies w gl goff G) (hr : gaR a b c L G 0) (hl : ¬ Lim (tfL a b c L G)) : Calls Tryz.prog 14 #[.agg #[.int .i64 a, .int .i64 b, .int .i64 c, .slice (some ⟨bl, off, none⟩) L.length cap], .slice (some ⟨gl, goff, none⟩) G.length gc] w fun e w' => e = .returned (.tuple #[.agg #[.int .i64 0, .int .i64 0, .int .i64 0, .slice none 0 0], .int .i64 3]) ∧ Below w.heap.size w w' :=
  (gaT_ok a b c bl off gl goff cap gc L G w h hg hr).mono fun e w' ⟨hr, hb⟩ => ⟨by
    rcases hr with ⟨h, _⟩ | ⟨_, h⟩
    · exact absurd h hl
    · exact h, hb⟩
end Go.Proofs.YtkgihmhehkaocaaGreat

/- Two gauge transformations, one behind the other: mathematics; and the answers of Compose.
Conditions: those written at each theorem. -/
namespace Go.Proofs.YtkgihmhehkaocaaGreat
set_option linter.unusedVariables false
set_option linter.unusedSimpArgs false
set_option maxRecDepth 1000000
open Go.RowKit
open Um Tm

/-- the units of two transformations' product -/
def coL (G H : List Q) : List Q := (List.range G.length).map fun (k : Nat) => low (mul (lk G (k : Int)) (lk H (k : Int)))
theorem coL_len (G H : List Q) : (coL G H).length = G.length := by simp [coL]
theorem coL_get {G H : List Q} {k : Nat} (hk : k < G.length) : (coL G H)[k]? = some (low (mul (lk G (k : Int)) (lk H (k : Int)))) := by
  simp [coL, hk]
theorem coL_lk {G H : List Q} {i : Int} (h0 : 0 ≤ i) (h1 : i < (G.length : Int)) : lk (coL G H) i = low (mul (lk G i) (lk H i)) := by
  have h2 := lk_get (L := coL G H) h0 (by rw [coL_len]; exact h1)
  rw [coL_get (by omega), show ((i.toNat : Nat) : Int) = i by omega] at h2
  exact (Option.some.inj h2).symm
theorem co_mul {g h x h' g' : Q} (ug : U g) (uh : U h) (ux : U x) (uh' : U h') (ug' : U g') : low (mul (mul g (low (mul (mul h x) (bar h')))) (bar g')) = low (mul (mul (low (mul g h)) x) (bar (low (mul g' h')))) := by
  have h1 : 0 < (mul (mul h x) (bar h')).n := (mul_len _ _ (mul_len _ _ uh ux) (bar_len _ uh')).pos
  have hA : 0 < (mul g h).n := (mul_len _ _ ug uh).pos
  have hM : 0 < (mul g' h').n := (mul_len _ _ ug' uh').pos
  have hB : 0 < (bar (mul g' h')).n := (bar_len _ (mul_len _ _ ug' uh')).pos
  have e1 : bar (low (mul g' h')) = low (bar (mul g' h')) := (Tm.low_bar _ hM).symm
  rw [low_mid _ _ _ h1, e1, low_mul_right _ _ hB, mul_assoc (low (mul g h)), low_mul_left _ _ hA, bar_mul']
  congr 1
  simp only [mul_assoc]
theorem tf_co {a b c : Int} {L G H : List Q} (hF : Fl a b c L) (hG : Gg L G) (hH : Gg L H) : tfL a b c (tfL a b c L H) G = tfL a b c L (coL G H) := by
  have hn := hF.n
  have hgn := hG.n
  have hhn := hH.n
  apply List.ext_getElem?
  intro i
  by_cases hi : i < L.length
  · rw [tfL_get (by rw [tfL_len]; exact hi), tfL_get hi]
    congr 1
    obtain ⟨t0, t1⟩ := ahd_rng hF.z i
    have e3 : lk (tfL a b c L H) (i : Int) = tfK a b c L H i := by
      have := lk_at (L := tfL a b c L H) (i := i) (by rw [tfL_len]; exact hi)
      rw [tfL_get hi] at this
      exact (Option.some.inj this).symm
    rw [tfK, tfK, e3, coL_lk (i := ((i / 3 : Nat) : Int)) (by omega) (by omega), coL_lk (i := ahd a b c i) t0 (by omega), tfK]
    exact co_mul (hG.v _ _ (lk_at (L := G) (i := i / 3) (by omega))).1.u (hH.v _ _ (lk_at (L := H) (i := i / 3) (by omega))).1.u (hF.v _ _ (lk_at hi)).1.u (hH.v _ _ (lk_get (L := H) t0 (by omega))).1.u (hG.v _ _ (lk_get (L := G) t0 (by omega))).1.u
  · rw [List.getElem?_eq_none (by rw [tfL_len, tfL_len]; omega), List.getElem?_eq_none (by rw [tfL_len]; omega)]
end Go.Proofs.YtkgihmhehkaocaaGreat

/- The fixed field: its links in the tree are 1, and it is its own fixed field; mathematics.
Conditions: those written at each theorem. -/
namespace Go.Proofs.YtkgihmhehkaocaaGreat
set_option linter.unusedVariables false
set_option linter.unusedSimpArgs false
set_option maxRecDepth 1000000
open Go.RowKit
open Um Tm

/-- no later link of the list leads to where this one begins or ends -/
def gdB (a b c : Int) : List Int → Bool
  | [] => true
  | k :: l => (k :: l).all (fun m => decide (ahd a b c m.toNat ≠ ((k.toNat / 3 : Nat) : Int))) && l.all (fun m => decide (ahd a b c m.toNat ≠ ahd a b c k.toNat)) && gdB a b c l
def fxB (a b c : Int) (N : Nat) : List Int → Bool := fun l => decide (l.length + 1 = N) && gdB a b c l
def fxAll : Bool := (List.range 4).all fun a => (List.range 4).all fun b => (List.range 4).all fun c => decide (16 < (a + 1) * (b + 1) * (c + 1)) || fxB (a + 1) (b + 1) (c + 1) ((a + 1) * (b + 1) * (c + 1)) (trAt (a + 1) (b + 1) (c + 1) (3 * ((a + 1) * (b + 1) * (c + 1)))).2
theorem fxAll_true : fxAll = true := by decide +kernel
theorem tr_gd {a b c : Int} {N : Nat} (hz : Sz a b c) (hN : (N : Int) = a * b * c) : (trL a b c N).length + 1 = N ∧ gdB a b c (trL a b c N) = true := by
  obtain ⟨a1, a4, b1, b4, c1, c4, hp⟩ := hz
  obtain ⟨A, rfl⟩ : ∃ A : Nat, a = ((A : Int) + 1) := ⟨(a - 1).toNat, by omega⟩
  obtain ⟨B, rfl⟩ : ∃ B : Nat, b = ((B : Int) + 1) := ⟨(b - 1).toNat, by omega⟩
  obtain ⟨C, rfl⟩ : ∃ C : Nat, c = ((C : Int) + 1) := ⟨(c - 1).toNat, by omega⟩
  have h := fxAll_true
  simp only [fxAll, List.all_eq_true, List.mem_range] at h
  have h2 := h A (by omega) B (by omega) C (by omega)
  have e : (((A + 1) * (B + 1) * (C + 1) : Nat) : Int) = ((A : Int) + 1) * ((B : Int) + 1) * ((C : Int) + 1) := by simp
  obtain rfl : N = (A + 1) * (B + 1) * (C + 1) := by omega
  have h3 : decide (16 < (A + 1) * (B + 1) * (C + 1)) = false := by
    rw [decide_eq_false_iff_not]
    omega
  rw [h3, Bool.false_or, fxB, Bool.and_eq_true, decide_eq_true_eq] at h2
  exact h2
theorem lk_setG {L : List Q} {i j : Int} (h0 : 0 ≤ i) (h1 : i < (L.length : Int)) (j0 : 0 ≤ j) (x : Q) : lk (L.set i.toNat x) j = if j = i then x else lk L j := by
  unfold lk
  rw [List.getD_eq_getElem?_getD, List.getD_eq_getElem?_getD, List.getElem?_set]
  by_cases h : j = i
  · subst h
    rw [if_pos rfl, if_pos rfl, if_pos (by omega)]
    rfl
  · rw [if_neg (by omega), if_neg h]
/-- what a list of links leaves as it was -/
theorem fold_out {a b c : Int} {L : List Q} (hz : Sz a b c) : ∀ (l : List Int) (G : List Q), (G.length : Int) = a * b * c → ∀ t : Int, 0 ≤ t → (∀ m ∈ l, ahd a b c m.toNat ≠ t) → lk (l.foldl (brF a b c L) G) t = lk G t := by
  intro l
  induction l with
  | nil => intro G _ t _ _; rfl
  | cons k l ih =>
    intro G hG t ht hl
    rw [List.foldl_cons, ih _ (by rw [brF_len]; exact hG) t ht (fun m hm => hl m (List.mem_cons_of_mem _ hm))]
    obtain ⟨t0, t1⟩ := ahd_rng hz k.toNat
    unfold brF
    rw [lk_setG t0 (by omega) ht, if_neg (fun e => hl k List.mem_cons_self e.symm)]
theorem fold_tree {a b c : Int} {L : List Q} (hz : Sz a b c) : ∀ (l : List Int) (G : List Q), (G.length : Int) = a * b * c → gdB a b c l = true → ∀ k ∈ l, lk (l.foldl (brF a b c L) G) (ahd a b c k.toNat) = low (mul (lk (l.foldl (brF a b c L) G) ((k.toNat / 3 : Nat) : Int)) (lk L k)) := by
  intro l
  induction l with
  | nil => intro G _ _ k hk; simp at hk
  | cons m l ih =>
    intro G hG hg k hk
    simp only [gdB, Bool.and_eq_true, List.all_eq_true, decide_eq_true_eq] at hg
    obtain ⟨⟨h1, h2⟩, h3⟩ := hg
    obtain ⟨t0, t1⟩ := ahd_rng hz m.toNat
    rw [List.foldl_cons]
    have hG1 : ((brF a b c L G m).length : Int) = a * b * c := by rw [brF_len]; exact hG
    rcases List.mem_cons.1 hk with rfl | hk
    · rw [fold_out hz l _ hG1 _ t0 h2, fold_out hz l _ hG1 _ (by omega) (fun m hm => h1 m (List.mem_cons_of_mem _ hm))]
      have hne := h1 k List.mem_cons_self
      unfold brF
      rw [lk_setG t0 (by omega) t0, if_pos rfl, lk_setG t0 (by omega) (by omega), if_neg (fun e => hne e.symm)]
    · exact ih _ hG1 h3 k hk
theorem lk_rep {N : Nat} {x : Q} {i : Int} (h0 : 0 ≤ i) (h1 : i < (N : Int)) : lk (List.replicate N x) i = x := by
  have := lk_get (L := List.replicate N x) h0 (by simpa using h1)
  rw [List.getElem?_replicate, if_pos (by omega)] at this
  exact (Option.some.inj this).symm
end Go.Proofs.YtkgihmhehkaocaaGreat

/- A field that is transformed by small units: its branches, its fixed field, its loops. Mathematics.
Conditions: those written at each theorem. -/
namespace Go.Proofs.YtkgihmhehkaocaaGreat
set_option linter.unusedVariables false
set_option linter.unusedSimpArgs false
set_option maxRecDepth 1000000
open Um Tm

/-- each link of the list leads from a site that is reached to one that is not -/
def ordB (a b c : Int) (N : Nat) : List Int → List Int → Bool
  | R, [] => (List.range N).all fun s => R.contains (s : Int)
  | R, k :: l => R.contains ((k.toNat / 3 : Nat) : Int) && !(R.contains (ahd a b c k.toNat)) && ordB a b c N (ahd a b c k.toNat :: R) l
def orAll : Bool := (List.range 4).all fun a => (List.range 4).all fun b => (List.range 4).all fun c => decide (16 < (a + 1) * (b + 1) * (c + 1)) || ordB (a + 1) (b + 1) (c + 1) ((a + 1) * (b + 1) * (c + 1)) [0] (trAt (a + 1) (b + 1) (c + 1) (3 * ((a + 1) * (b + 1) * (c + 1)))).2
theorem orAll_true : orAll = true := by decide +kernel
theorem tr_ord {a b c : Int} {N : Nat} (hz : Sz a b c) (hN : (N : Int) = a * b * c) : ordB a b c N [0] (trL a b c N) = true := by
  obtain ⟨a1, a4, b1, b4, c1, c4, hp⟩ := hz
  obtain ⟨A, rfl⟩ : ∃ A : Nat, a = ((A : Int) + 1) := ⟨(a - 1).toNat, by omega⟩
  obtain ⟨B, rfl⟩ : ∃ B : Nat, b = ((B : Int) + 1) := ⟨(b - 1).toNat, by omega⟩
  obtain ⟨C, rfl⟩ : ∃ C : Nat, c = ((C : Int) + 1) := ⟨(c - 1).toNat, by omega⟩
  have h := orAll_true
  simp only [orAll, List.all_eq_true, List.mem_range] at h
  have h2 := h A (by omega) B (by omega) C (by omega)
  have e : (((A + 1) * (B + 1) * (C + 1) : Nat) : Int) = ((A : Int) + 1) * ((B : Int) + 1) * ((C : Int) + 1) := by simp
  obtain rfl : N = (A + 1) * (B + 1) * (C + 1) := by omega
  have h3 : decide (16 < (A + 1) * (B + 1) * (C + 1)) = false := by
    rw [decide_eq_false_iff_not]
    omega
  rw [h3, Bool.false_or] at h2
  exact h2
theorem ord_ind {a b c : Int} {N : Nat} (P : Int → Prop) : ∀ (l R : List Int), ordB a b c N R l = true → (∀ s ∈ R, P s) → (∀ k ∈ l, P ((k.toNat / 3 : Nat) : Int) → P (ahd a b c k.toNat)) → ∀ s : Nat, s < N → P (s : Int)
  | [], R, h, hR, _, s, hs => by
    simp only [ordB, List.all_eq_true, List.mem_range] at h
    exact hR _ (List.contains_iff_mem.1 (h s hs))
  | k :: l, R, h, hR, hk, s, hs => by
    simp only [ordB, Bool.and_eq_true] at h
    obtain ⟨⟨h1, _⟩, h3⟩ := h
    refine ord_ind P l _ h3 (fun t ht => ?_) (fun m hm => hk m (List.mem_cons_of_mem _ hm)) s hs
    rcases List.mem_cons.1 ht with rfl | ht
    · exact hk k List.mem_cons_self (hR _ (List.contains_iff_mem.1 h1))
    · exact hR t ht
theorem ord_out {a b c : Int} {N : Nat} {t : Int} : ∀ (l R : List Int), ordB a b c N R l = true → t ∈ R → ∀ m ∈ l, ahd a b c m.toNat ≠ t
  | [], _, _, _, m, hm => by simp at hm
  | k :: l, R, h, ht, m, hm => by
    simp only [ordB, Bool.and_eq_true, Bool.not_eq_true'] at h
    obtain ⟨⟨_, h2⟩, h3⟩ := h
    rcases List.mem_cons.1 hm with rfl | hm
    · intro e
      rw [e, List.contains_iff_mem.2 ht] at h2
      cases h2
    · exact ord_out l _ h3 (List.mem_cons_of_mem _ ht) m hm
theorem br_zero {a b c : Int} {N : Nat} {L : List Q} (hz : Sz a b c) (hN : (N : Int) = a * b * c) : lk (brL a b c N L) 0 = one := by
  have h := tr_ord hz hN
  obtain ⟨-, -, p3, -⟩ := mul_rng hz.a1 hz.a4 hz.b1 hz.b4 hz.c1 hz.c4
  unfold brL brT
  rw [fold_out hz _ _ (by rw [List.length_replicate]; omega) 0 (by omega) (ord_out _ _ h (by simp))]
  exact lk_rep (by omega) (by omega)
theorem br_step {a b c : Int} {N : Nat} {L : List Q} (hz : Sz a b c) (hN : (N : Int) = a * b * c) : ∀ k ∈ trL a b c N, lk (brL a b c N L) (ahd a b c k.toNat) = low (mul (lk (brL a b c N L) ((k.toNat / 3 : Nat) : Int)) (lk L k)) :=
  fold_tree hz _ _ (by rw [List.length_replicate]; omega) (tr_gd hz hN).2
theorem or_alg {g0 br gx u gy : Q} (u0 : U g0) (ub : U br) (ux : U gx) (uu : U u) (uy : U gy) : low (mul (low (mul (mul g0 br) (bar gx))) (low (mul (mul gx u) (bar gy)))) = low (mul (mul g0 (low (mul br u))) (bar gy)) := by
  have h1 : 0 < (mul (mul g0 br) (bar gx)).n := (mul_len _ _ (mul_len _ _ u0 ub) (bar_len _ ux)).pos
  have h2 : 0 < (mul (mul gx u) (bar gy)).n := (mul_len _ _ (mul_len _ _ ux uu) (bar_len _ uy)).pos
  have h3 : 0 < (mul br u).n := (mul_len _ _ ub uu).pos
  rw [low_mul_left _ _ h1, low_mul_right _ _ h2, low_mid _ _ _ h3]
  have e : mul (mul (mul g0 br) (bar gx)) (mul (mul gx u) (bar gy)) = scale (gx.n * gx.n) (mul (mul g0 (mul br u)) (bar gy)) := by
    rw [mul_assoc (mul g0 br), mul_assoc gx u, ← mul_assoc (bar gx) gx, bar_mul gx ux, scale_mul, one_mul', mul_scale]
    congr 1
    simp only [mul_assoc]
  rw [e, low_scale _ _ (Int.mul_pos ux.pos ux.pos)]
/-- the branches of the transformed field -/
theorem br_tf {a b c : Int} {N : Nat} {L G : List Q} (hz : Sz a b c) (hN : (N : Int) = a * b * c) (hn : (L.length : Int) = 3 * (a * b * c)) (hg : G.length = N) (hL : AllS L) (hG : AllS G) : ∀ s : Nat, s < N → lk (brL a b c N (tfL a b c L G)) (s : Int) = low (mul (mul (lk G 0) (lk (brL a b c N L) (s : Int))) (bar (lk G (s : Int)))) := by
  obtain ⟨-, -, p3, -⟩ := mul_rng hz.a1 hz.a4 hz.b1 hz.b4 hz.c1 hz.c4
  have hbr : AllS (brL a b c N L) := AllS.br (by omega) hL _ (fun k hk => tr_mem hz hN _ (Nat.le_refl _) k hk)
  have hbl : (brL a b c N L).length = N := brL_len _ _ _ _ _
  refine ord_ind (fun s => lk (brL a b c N (tfL a b c L G)) s = low (mul (mul (lk G 0) (lk (brL a b c N L) s)) (bar (lk G s)))) _ _ (tr_ord hz hN) (fun s hs => ?_) (fun k hk ih => ?_)
  · rw [List.mem_singleton.1 hs, br_zero hz hN, br_zero hz hN, mul_one', low_mul_bar _ (hG.lk (by omega) (by omega)).1.u]
  · obtain ⟨k0, k1⟩ := tr_mem hz hN _ (Nat.le_refl _) k hk
    obtain ⟨t0, t1⟩ := ahd_rng hz k.toNat
    rw [br_step hz hN k hk, ih, br_step hz hN k hk]
    have e : lk (tfL a b c L G) k = low (mul (mul (lk G ((k.toNat / 3 : Nat) : Int)) (lk L k)) (bar (lk G (ahd a b c k.toNat)))) := by
      have h := tfL_get (a := a) (b := b) (c := c) (L := L) (G := G) (k := k.toNat) (by omega)
      have h2 := lk_get (L := tfL a b c L G) k0 (by rw [tfL_len]; omega)
      rw [h] at h2
      have h3 := (Option.some.inj h2).symm
      rw [h3, tfK, Int.toNat_of_nonneg k0]
    rw [e]
    exact or_alg (hG.lk (by omega) (by omega)).1.u (hbr.lk (by omega) (by omega)).1.u (hG.lk (by omega) (by omega)).1.u (hL.lk k0 (by omega)).1.u (hG.lk t0 (by omega)).1.u
theorem lk_ext {L M : List Q} (hl : L.length = M.length) (h : ∀ s : Nat, s < L.length → lk L (s : Int) = lk M (s : Int)) : L = M := by
  refine List.ext_getElem hl fun i h1 h2 => ?_
  have := h i h1
  unfold lk at this
  rw [Int.toNat_natCast, List.getD_eq_getElem?_getD, List.getD_eq_getElem?_getD, List.getElem?_eq_getElem h1, List.getElem?_eq_getElem h2] at this
  exact this
theorem AllS.gg {L G : List Q} (hG : AllS G) (hn : 3 * G.length = L.length) : Gg L G := ⟨hn, fun i x hx => ⟨(hG i x hx).1, by have := (hG i x hx).2; omega⟩⟩
theorem AllS.rep {x : Q} (hx : Sm2 x) (N : Nat) : AllS (List.replicate N x) := fun i y hy => by
  have := List.mem_of_getElem? hy
  rw [(List.mem_replicate.1 this).2]; exact hx
theorem AllS.co {G H : List Q} (hG : AllS G) (hH : AllS H) (hl : H.length = G.length) : AllS (coL G H) := fun i x hx => by
  have hi : i < G.length := by have := (List.getElem?_eq_some_iff.1 hx).1; rwa [coL_len] at this
  rw [coL_get hi] at hx
  rw [← Option.some.inj hx]
  exact (hG.lk (by omega) (by omega)).mul (hH.lk (by omega) (by omega))
theorem AllS.bars {G : List Q} (hG : AllS G) : AllS (G.map bar) := fun i x hx => by
  rw [List.getElem?_map] at hx
  cases h : G[i]? with
  | none => rw [h] at hx; cases hx
  | some y => rw [h] at hx; rw [← Option.some.inj hx]; exact (hG i y h).bar
theorem lk_bars {G : List Q} {s : Nat} (h : s < G.length) : lk (G.map bar) (s : Int) = bar (lk G (s : Int)) := by
  unfold lk
  rw [Int.toNat_natCast, List.getD_eq_getElem?_getD, List.getD_eq_getElem?_getD, List.getElem?_map, List.getElem?_eq_getElem h]
  rfl
/-- the fixed field of the transformed field is the fixed field, turned by the unit of the site 0 -/
theorem fx_tf {a b c : Int} {N : Nat} {L G : List Q} (hF : Fl a b c L) (hN : (N : Int) = a * b * c) (hg : G.length = N) (hL : AllS L) (hG : AllS G) : fxL a b c N (tfL a b c L G) = tfL a b c (fxL a b c N L) (List.replicate N (lk G 0)) := by
  have hz := hF.z
  have hn := hF.n
  obtain ⟨-, -, p3, -⟩ := mul_rng hz.a1 hz.a4 hz.b1 hz.b4 hz.c1 hz.c4
  have h3 : 3 * G.length = L.length := by omega
  have s0 : Sm2 (lk G 0) := hG.lk (by omega) (by omega)
  have hbr : AllS (brL a b c N L) := brL_all hF hL hN
  have hbl : (brL a b c N L).length = N := brL_len _ _ _ _ _
  have hco : AllS (coL (brL a b c N L) (G.map bar)) := hbr.co hG.bars (by rw [List.length_map]; omega)
  have hcl : (coL (brL a b c N L) (G.map bar)).length = N := by rw [coL_len]; exact hbl
  have hF' : Fl a b c (tfL a b c L G) := by
    have hA := AllS.tf hz hn h3 hL hG
    exact ⟨hz, by rw [tfL_len]; exact hn, fun i x hx => ⟨(hA i x hx).1, by have := (hA i x hx).2; omega⟩⟩
  have hb : brL a b c N (tfL a b c L G) = coL (List.replicate N (lk G 0)) (coL (brL a b c N L) (G.map bar)) := by
    refine lk_ext (by rw [brL_len, coL_len, List.length_replicate]) fun s hs => ?_
    rw [brL_len] at hs
    rw [br_tf hz hN hn hg hL hG s hs, coL_lk (by omega) (by rw [List.length_replicate]; omega), lk_rep (by omega) (by omega), coL_lk (by omega) (by omega), lk_bars (by omega), low_mul_right _ _ (mul_len _ _ (hbr.lk (by omega) (by omega)).1.u (bar_len _ (hG.lk (by omega) (by omega)).1.u)).pos, mul_assoc]
  show tfL a b c (tfL a b c L G) (brL a b c N (tfL a b c L G)) = _
  rw [hb, ← tf_co hF' ((AllS.rep s0 N).gg (by rw [List.length_replicate, tfL_len]; omega)) (hco.gg (by rw [hcl, tfL_len]; omega)), ← tf_co hF' (hbr.gg (by rw [hbl, tfL_len]; omega)) (hG.bars.gg (by rw [List.length_map, tfL_len]; omega)), tf_tf hF (hG.gg h3)]
  rfl
/-- turned by a unit -/
def cj (g x : Q) : Q := low (mul (mul g x) (bar g))
theorem tf_rep {a b c : Int} {N : Nat} {T : List Q} {g : Q} (hz : Sz a b c) (hN : (N : Int) = a * b * c) (hn : (T.length : Int) = 3 * (a * b * c)) {k : Nat} (hk : k < T.length) : lk (tfL a b c T (List.replicate N g)) (k : Int) = cj g (lk T (k : Int)) := by
  obtain ⟨t0, t1⟩ := ahd_rng hz k
  have h2 := lk_get (L := tfL a b c T (List.replicate N g)) (i := (k : Int)) (by omega) (by rw [tfL_len]; omega)
  rw [Int.toNat_natCast, tfL_get hk] at h2
  rw [(Option.some.inj h2).symm, tfK, lk_rep (by omega) (by omega), lk_rep t0 (by omega)]
  rfl
theorem lpK_cj (g : Q) {S T : List Q} (tr : List Int) : ∀ k, (∀ j : Nat, j < k → lk S (j : Int) = cj g (lk T (j : Int))) → lpK S tr k = (lpK T tr k).map (cj g)
  | 0, _ => rfl
  | k + 1, h => by
    have ih := lpK_cj g (S := S) (T := T) tr k (fun j hj => h j (by omega))
    unfold lpK
    rw [ih, h k (by omega)]
    split <;> simp
/-- the loops of the transformed field are the loops, turned by the unit of the site 0 -/
theorem lp_tf {a b c : Int} {N : Nat} {L G : List Q} (hF : Fl a b c L) (hN : (N : Int) = a * b * c) (hg : G.length = N) (hL : AllS L) (hG : AllS G) : lpL a b c N (tfL a b c L G) = (lpL a b c N L).map (cj (lk G 0)) := by
  unfold lpL
  rw [fx_tf hF hN hg hL hG, tfL_len]
  refine lpK_cj _ _ _ (fun j hj => tf_rep hF.z hN (by rw [fxL_len]; exact hF.n) (by rw [fxL_len]; exact hj))
/-- what is turned has the unit as a certificate -/
theorem turns_cj {g u : Q} (hg : U g) (hu : U u) : turnsP g u (cj g u) := fun k hk => by
  unfold cj
  have hM := mul_len _ _ (mul_len _ _ hg hu) (bar_len _ hg)
  have hs := scale_low (mul (mul g u) (bar g))
  have hp := g_pos _ hM.pos
  generalize hl : low (mul (mul g u) (bar g)) = v at *
  have e1 : scale (Um.g (mul (mul g u) (bar g))) (mul v g) = scale (g.n * g.n) (mul g u) := by
    rw [← scale_mul, hs, mul_assoc, bar_mul g hg, mul_scale, mul_one']
  have e2 : (Um.g (mul (mul g u) (bar g)) : Int) * v.n = g.n * g.n * u.n := by
    have := congrArg Q.n hs
    have h3 : (mul (mul g u) (bar g)).n = g.n * u.n * g.n := rfl
    rw [h3] at this
    have h4 : (scale (Um.g (mul (mul g u) (bar g))) v).n = (Um.g (mul (mul g u) (bar g)) : Int) * v.n := rfl
    rw [← h4, this]
    grind
  have e3 : (Um.g (mul (mul g u) (bar g)) : Int) * cmp k (mul v g) = g.n * g.n * cmp k (mul g u) := by
    have hc : ∀ (s : Int) (x : Q), cmp k (scale s x) = s * cmp k x := fun s x => by
      rcases cases4 hk with rfl | rfl | rfl | rfl <;> rfl
    rw [← hc, e1, hc]
  generalize (Um.g (mul (mul g u) (bar g)) : Int) = γ at *
  have e4 : γ * (cmp k (mul g u) * v.n) = γ * (cmp k (mul v g) * u.n) := by
    have h1 : γ * (cmp k (mul g u) * v.n) = cmp k (mul g u) * (γ * v.n) := by grind
    have h2 : γ * (cmp k (mul v g) * u.n) = (γ * cmp k (mul v g)) * u.n := by grind
    rw [h1, h2, e2, e3]
    grind
  exact Int.eq_of_mul_eq_mul_left (by omega) e4
end Go.Proofs.YtkgihmhehkaocaaGreat

/- The unit along a path of a transformed field; mathematics, no Go.
Conditions: those written at each theorem. -/
namespace Go.Proofs.YtkgihmhehkaocaaGreat
set_option linter.unusedVariables false
set_option linter.unusedSimpArgs false
set_option maxRecDepth 1000000
open Go.RowKit
open Um Tm

end Go.Proofs.YtkgihmhehkaocaaGreat

/- Bases of the solutions of equations with integers: what narrowing keeps; mathematics, no Go.
Conditions: those written at each theorem. -/
namespace Go.Proofs.YtkgihmhehkaocaaGreat
set_option linter.unusedVariables false
set_option linter.unusedSimpArgs false
set_option maxRecDepth 1000000
open Um Tm

/-- a sum of multiples -/
def smf (f : Q → Int) : List Int → List Q → Int
  | c :: cs, q :: B => c * f q + smf f cs B
  | _, _ => 0
theorem smf_nil (f : Q → Int) (cs : List Int) : smf f cs [] = 0 := by cases cs <;> rfl
theorem smf_mid (f : Q → Int) (w : Q) (B2 : List Q) : ∀ (B1 : List Q) (c1 : List Int) (c : Int) (c2 : List Int), c1.length = B1.length → smf f (c1 ++ c :: c2) (B1 ++ w :: B2) = smf f (c1 ++ c2) (B1 ++ B2) + c * f w := by
  intro B1
  induction B1 with
  | nil => intro c1 c c2 h; cases c1 with
    | nil => simp only [List.nil_append, smf]; omega
    | cons x l => simp at h
  | cons q B1 ih => intro c1 c c2 h; cases c1 with
    | nil => simp at h
    | cons x l =>
      have := ih l c c2 (by simpa using h)
      simp only [List.cons_append, smf, this]
      omega
theorem smf_map (f : Q → Int) (k : Int) : ∀ (B : List Q) (cs : List Int), smf f (cs.map (k * ·)) B = k * smf f cs B := by
  intro B
  induction B with
  | nil => intro cs; rw [smf_nil, smf_nil]; simp
  | cons q B ih => intro cs; cases cs with
    | nil => simp [smf]
    | cons c cs => simp only [List.map_cons, smf, ih]; grind
theorem smf_zero (f : Q → Int) : ∀ (B : List Q) (cs : List Int), (∀ q ∈ B, f q = 0) → smf f cs B = 0 := by
  intro B
  induction B with
  | nil => intro cs _; exact smf_nil f cs
  | cons q B ih => intro cs h; cases cs with
    | nil => rfl
    | cons c cs => simp only [smf, h q List.mem_cons_self, ih cs (fun x hx => h x (List.mem_cons_of_mem _ hx))]; simp
theorem dot4_cmp (e q : Q) : dot4 e q = e.a * cmp 0 q + e.b * cmp 1 q + e.c * cmp 2 q + e.d * cmp 3 q := by simp [dot4, cmp]
theorem smf_dot (e : Q) : ∀ (B : List Q) (cs : List Int), smf (dot4 e) cs B = e.a * smf (cmp 0) cs B + e.b * smf (cmp 1) cs B + e.c * smf (cmp 2) cs B + e.d * smf (cmp 3) cs B := by
  intro B
  induction B with
  | nil => intro cs; simp [smf_nil]
  | cons q B ih => intro cs; cases cs with
    | nil => simp [smf]
    | cons c cs => simp only [smf, ih, dot4_cmp]; grind
/-- no combination is 0 but that of zeros -/
def Ind (B : List Q) : Prop := ∀ cs : List Int, cs.length = B.length → (∀ k, k < 4 → smf (cmp k) cs B = 0) → ∀ c ∈ cs, c = 0
/-- each solution has a multiple that is a combination -/
def Spn (P : Q → Prop) (B : List Q) : Prop := ∀ q, P q → ∃ (m : Int) (cs : List Int), m ≠ 0 ∧ cs.length = B.length ∧ ∀ k, k < 4 → m * cmp k q = smf (cmp k) cs B
/-- what narrowing makes of a quaternion, in lowest terms -/
def Nr (e w q q' : Q) : Prop := ∃ k : Int, k ≠ 0 ∧ ∀ j, j < 4 → dot4 e w * cmp j q - dot4 e q * cmp j w = k * cmp j q'
inductive NrL (e w : Q) : List Q → List Q → Prop
  | nil : NrL e w [] []
  | cons {q q' : Q} {l l' : List Q} : Nr e w q q' → NrL e w l l' → NrL e w (q :: l) (q' :: l')
theorem NrL.len {e w : Q} {l l' : List Q} (h : NrL e w l l') : l'.length = l.length := by
  induction h with
  | nil => rfl
  | cons _ _ ih => simp [ih]
theorem NrL.back {e w : Q} {l l' : List Q} (h : NrL e w l l') : ∀ cs' : List Int, cs'.length = l'.length → ∃ (K t : Int) (cs : List Int), K ≠ 0 ∧ cs.length = l.length ∧ (∀ j, j < 4 → K * smf (cmp j) cs' l' = dot4 e w * smf (cmp j) cs l - t * cmp j w) ∧ ((∀ c ∈ cs, c = 0) → ∀ c ∈ cs', c = 0) := by
  induction h with
  | nil =>
    intro cs' h
    refine ⟨1, 0, [], by decide, rfl, fun j _ => by simp [smf_nil], fun _ => ?_⟩
    have : cs' = [] := List.length_eq_zero_iff.1 h
    subst this
    simp
  | @cons q q' l l' hq _ ih =>
    intro cs' hl
    cases cs' with
    | nil => simp at hl
    | cons c' cs' =>
      obtain ⟨K, t, cs, hK, hc, hs, hz⟩ := ih cs' (by simpa using hl)
      obtain ⟨k, hk, hj⟩ := hq
      refine ⟨K * k, K * c' * dot4 e q + k * t, (K * c') :: cs.map (k * ·), ?_, by simp [hc], fun j h4 => ?_, fun h => ?_⟩
      · intro h0
        rcases Int.mul_eq_zero.1 h0 with h0 | h0
        · exact hK h0
        · exact hk h0
      · have h1 := hs j h4
        have h2 := hj j h4
        simp only [smf, smf_map]
        have e1 : K * k * (c' * cmp j q' + smf (cmp j) cs' l') = K * c' * (k * cmp j q') + k * (K * smf (cmp j) cs' l') := by grind
        rw [e1, ← h2, h1]
        grind
      · intro c hc'
        have hx := h (K * c') List.mem_cons_self
        have hy : ∀ c ∈ cs, c = 0 := fun c hm => by
          have := h (k * c) (List.mem_cons_of_mem _ (List.mem_map.2 ⟨c, hm, rfl⟩))
          rcases Int.mul_eq_zero.1 this with h0 | h0
          · exact absurd h0 hk
          · exact h0
        rcases List.mem_cons.1 hc' with rfl | hm
        · rcases Int.mul_eq_zero.1 hx with h0 | h0
          · exact absurd h0 hK
          · exact h0
        · exact hz hy c hm
theorem NrL.forth {e w : Q} {l l' : List Q} (h : NrL e w l l') : ∀ cs : List Int, cs.length = l.length → ∃ cs' : List Int, cs'.length = l'.length ∧ ∀ j, j < 4 → smf (cmp j) cs' l' = dot4 e w * smf (cmp j) cs l - smf (dot4 e) cs l * cmp j w := by
  induction h with
  | nil => intro cs _; exact ⟨[], rfl, fun j _ => by simp [smf_nil]⟩
  | @cons q q' l l' hq _ ih =>
    intro cs hl
    cases cs with
    | nil => simp at hl
    | cons c cs =>
      obtain ⟨cs', hc, hs⟩ := ih cs (by simpa using hl)
      obtain ⟨k, hk, hj⟩ := hq
      refine ⟨(c * k) :: cs', by simp [hc], fun j h4 => ?_⟩
      have h1 := hs j h4
      have h2 := hj j h4
      simp only [smf, h1]
      have e1 : c * k * cmp j q' = c * (k * cmp j q') := by grind
      rw [e1, ← h2]
      grind
theorem split_at {n m : Nat} (cs : List Int) (h : cs.length = n + (m + 1)) : ∃ c1 c c2, cs = c1 ++ c :: c2 ∧ c1.length = n ∧ c2.length = m := by
  have h1 : n < cs.length := by omega
  refine ⟨cs.take n, cs[n], cs.drop (n + 1), ?_, by simp; omega, by simp; omega⟩
  rw [← List.drop_eq_getElem_cons h1, List.take_append_drop]
theorem Ind.narrow {e w : Q} {B1 B2 B' : List Q} (h : Ind (B1 ++ w :: B2)) (hw : dot4 e w ≠ 0) (hn : NrL e w (B1 ++ B2) B') : Ind B' := fun cs' hl hs => by
  obtain ⟨K, t, cs, hK, hc, hj, hz⟩ := hn.back cs' hl
  refine hz fun c hm => ?_
  have hlen : cs.length = B1.length + B2.length := by rw [hc]; simp
  have hA := h (((cs.take B1.length).map (dot4 e w * ·)) ++ (-t) :: ((cs.drop B1.length).map (dot4 e w * ·))) (by simp; omega) (fun k hk => by
    rw [smf_mid _ _ _ _ _ _ _ (by simp; omega), ← List.map_append, List.take_append_drop, smf_map]
    have := hj k hk
    rw [hs k hk] at this
    grind)
  have h2 : ∀ x ∈ cs, dot4 e w * x = 0 := fun x hx => by
    rw [← List.take_append_drop B1.length cs] at hx
    rcases List.mem_append.1 hx with hx | hx
    · exact hA _ (List.mem_append_left _ (List.mem_map.2 ⟨x, hx, rfl⟩))
    · exact hA _ (List.mem_append_right _ (List.mem_cons_of_mem _ (List.mem_map.2 ⟨x, hx, rfl⟩)))
  rcases Int.mul_eq_zero.1 (h2 c hm) with h0 | h0
  · exact absurd h0 hw
  · exact h0
theorem Spn.narrow {P : Q → Prop} {e w : Q} {B1 B2 B' : List Q} (h : Spn P (B1 ++ w :: B2)) (hw : dot4 e w ≠ 0) (hn : NrL e w (B1 ++ B2) B') : Spn (fun q => P q ∧ dot4 e q = 0) B' := fun q hq => by
  obtain ⟨m, cs, hm, hl, hs⟩ := h q hq.1
  obtain ⟨c1, c, c2, rfl, h1, h2⟩ := split_at (n := B1.length) (m := B2.length) cs (by rw [hl]; simp)
  obtain ⟨cs', hc, hj⟩ := hn.forth (c1 ++ c2) (by simp; omega)
  refine ⟨dot4 e w * m, cs', ?_, hc, fun k hk => ?_⟩
  · intro h0
    rcases Int.mul_eq_zero.1 h0 with h0 | h0
    · exact hw h0
    · exact hm h0
  have hd : smf (dot4 e) (c1 ++ c2) (B1 ++ B2) + c * dot4 e w = 0 := by
    rw [← smf_mid _ _ _ _ _ _ _ h1, smf_dot, ← hs 0 (by decide), ← hs 1 (by decide), ← hs 2 (by decide), ← hs 3 (by decide)]
    have := hq.2
    rw [dot4_cmp] at this
    grind
  have hk2 := hs k hk
  rw [smf_mid _ _ _ _ _ _ _ h1] at hk2
  rw [hj k hk]
  generalize smf (dot4 e) (c1 ++ c2) (B1 ++ B2) = s at *
  generalize smf (cmp k) (c1 ++ c2) (B1 ++ B2) = v at *
  have : s = - (c * dot4 e w) := by omega
  rw [this]
  have e3 : dot4 e w * m * cmp k q = dot4 e w * (m * cmp k q) := by grind
  rw [e3, hk2]
  grind
theorem dot4_Nr {e f w q q' : Q} (h : Nr e w q q') (hq : dot4 f q = 0) (hw : dot4 f w = 0) : dot4 f q' = 0 := by
  obtain ⟨k, hk, hj⟩ := h
  have h0 := hj 0 (by decide)
  have h1 := hj 1 (by decide)
  have h2 := hj 2 (by decide)
  have h3 := hj 3 (by decide)
  have : k * dot4 f q' = 0 := by
    rw [dot4_cmp] at hq hw ⊢
    have e1 : k * (f.a * cmp 0 q' + f.b * cmp 1 q' + f.c * cmp 2 q' + f.d * cmp 3 q') = f.a * (k * cmp 0 q') + f.b * (k * cmp 1 q') + f.c * (k * cmp 2 q') + f.d * (k * cmp 3 q') := by grind
    rw [e1, ← h0, ← h1, ← h2, ← h3]
    have e2 : f.a * (dot4 e w * cmp 0 q - dot4 e q * cmp 0 w) + f.b * (dot4 e w * cmp 1 q - dot4 e q * cmp 1 w) + f.c * (dot4 e w * cmp 2 q - dot4 e q * cmp 2 w) + f.d * (dot4 e w * cmp 3 q - dot4 e q * cmp 3 w) = dot4 e w * (f.a * cmp 0 q + f.b * cmp 1 q + f.c * cmp 2 q + f.d * cmp 3 q) - dot4 e q * (f.a * cmp 0 w + f.b * cmp 1 w + f.c * cmp 2 w + f.d * cmp 3 w) := by grind
    rw [e2, hq, hw]
    simp
  rcases Int.mul_eq_zero.1 this with h | h
  · exact absurd h hk
  · exact h
theorem dot4_Nr_self {e w q q' : Q} (h : Nr e w q q') : dot4 e q' = 0 := by
  obtain ⟨k, hk, hj⟩ := h
  have h0 := hj 0 (by decide)
  have h1 := hj 1 (by decide)
  have h2 := hj 2 (by decide)
  have h3 := hj 3 (by decide)
  have hd := dot4_cmp e q'
  have hq := dot4_cmp e q
  have hw := dot4_cmp e w
  have : k * dot4 e q' = 0 := by
    have e1 : k * (e.a * cmp 0 q' + e.b * cmp 1 q' + e.c * cmp 2 q' + e.d * cmp 3 q') = e.a * (k * cmp 0 q') + e.b * (k * cmp 1 q') + e.c * (k * cmp 2 q') + e.d * (k * cmp 3 q') := by grind
    rw [hd, e1, ← h0, ← h1, ← h2, ← h3]
    generalize dot4 e w = D at *
    generalize dot4 e q = d at *
    have e2 : e.a * (D * cmp 0 q - d * cmp 0 w) + e.b * (D * cmp 1 q - d * cmp 1 w) + e.c * (D * cmp 2 q - d * cmp 2 w) + e.d * (D * cmp 3 q - d * cmp 3 w) = D * (e.a * cmp 0 q + e.b * cmp 1 q + e.c * cmp 2 q + e.d * cmp 3 q) - d * (e.a * cmp 0 w + e.b * cmp 1 w + e.c * cmp 2 w + e.d * cmp 3 w) := by grind
    rw [e2, ← hq, ← hw]
    grind
  rcases Int.mul_eq_zero.1 this with h | h
  · exact absurd h hk
  · exact h
theorem NrL.sol {e w : Q} {l l' : List Q} (h : NrL e w l l') : (∀ q ∈ l', dot4 e q = 0) ∧ ∀ f : Q, dot4 f w = 0 → (∀ q ∈ l, dot4 f q = 0) → ∀ q ∈ l', dot4 f q = 0 := by
  induction h with
  | nil => exact ⟨fun q h => by simp at h, fun _ _ _ q h => by simp at h⟩
  | @cons q q' l l' hq _ ih =>
    refine ⟨fun x hx => ?_, fun f hw hf x hx => ?_⟩
    · rcases List.mem_cons.1 hx with rfl | hx
      · exact dot4_Nr_self hq
      · exact ih.1 x hx
    · rcases List.mem_cons.1 hx with rfl | hx
      · exact dot4_Nr hq (hf q List.mem_cons_self) hw
      · exact ih.2 f hw (fun y hy => hf y (List.mem_cons_of_mem _ hy)) x hx
/-- what is taken away is not all -/
theorem Ind.sum_ne {e w q : Q} {B1 B2 : List Q} (h : Ind (B1 ++ w :: B2)) (hw : dot4 e w ≠ 0) (hq : q ∈ B1 ++ B2) : ¬ ∀ j, j < 4 → dot4 e w * cmp j q - dot4 e q * cmp j w = 0 := fun h0 => by
  obtain ⟨l1, l2, hl⟩ := List.append_of_mem hq
  obtain ⟨cs, hcs, hd⟩ : ∃ cs : List Int, cs.length = (B1 ++ B2).length ∧ (∀ f : Q → Int, smf f cs (B1 ++ B2) = dot4 e w * f q) ∧ (dot4 e w ∈ cs) := by
    refine ⟨List.replicate l1.length 0 ++ dot4 e w :: List.replicate l2.length 0, by rw [hl]; simp, fun f => ?_, by simp⟩
    rw [hl, smf_mid _ _ _ _ _ _ _ (by simp)]
    have : ∀ (B : List Q) (cs : List Int), (∀ c ∈ cs, c = 0) → smf f cs B = 0 := by
      intro B
      induction B with
      | nil => intro cs _; exact smf_nil f _
      | cons x B ih => intro cs h; cases cs with
        | nil => rfl
        | cons c cs =>
          have e0 := h c List.mem_cons_self
          subst e0
          simp only [smf, ih cs (fun y hy => h y (List.mem_cons_of_mem _ hy))]; omega
    rw [this _ _ (fun c hc => by
      rcases List.mem_append.1 hc with hc | hc
      · exact (List.mem_replicate.1 hc).2
      · exact (List.mem_replicate.1 hc).2)]
    omega
  have hA := h (cs.take B1.length ++ (-(dot4 e q)) :: cs.drop B1.length) (by simp at hcs ⊢; omega) (fun k hk => by
    rw [smf_mid _ _ _ _ _ _ _ (by simp at hcs ⊢; omega), List.take_append_drop, hd.1]
    have := h0 k hk
    grind)
  refine hw (hA _ ?_)
  have hm := hd.2
  rw [← List.take_append_drop B1.length cs] at hm
  rcases List.mem_append.1 hm with hm | hm
  · exact List.mem_append_left _ hm
  · exact List.mem_append_right _ (List.mem_cons_of_mem _ hm)
/-- the coordinates are a basis of all -/
theorem ind_un : Ind [un 0, un 1, un 2, un 3] := fun cs hl h => by
  match cs, hl with
  | [c0, c1, c2, c3], _ =>
    have h0 := h 0 (by decide)
    have h1 := h 1 (by decide)
    have h2 := h 2 (by decide)
    have h3 := h 3 (by decide)
    simp [smf, cmp, un] at h0 h1 h2 h3
    intro c hc
    simp at hc
    rcases hc with rfl | rfl | rfl | rfl <;> assumption
theorem spn_un : Spn (fun _ => True) [un 0, un 1, un 2, un 3] := fun q _ => by
  refine ⟨1, [q.a, q.b, q.c, q.d], by decide, rfl, fun k hk => ?_⟩
  rcases cases4 hk with rfl | rfl | rfl | rfl <;> simp [smf, cmp, un]
end Go.Proofs.YtkgihmhehkaocaaGreat

/- A quaternion of integers divided by what divides all its coordinates, as the program makes it.
Conditions: the bounds written at each theorem. -/
namespace Go.Proofs.YtkgihmhehkaocaaGreat
set_option linter.unusedVariables false
set_option linter.unusedSimpArgs false
set_option maxRecDepth 1000000
open Go.RowKit
open Um Tm

theorem ixGq (x : Q) {k : Nat} (hk : k < 4) : ∀ W, (Instr.index 65 (.agg #[.int .i64 x.a, .int .i64 x.b, .int .i64 x.c, .int .i64 x.d]) (.int .i64 (k : Int))).run Tryz.prog W = .ok (.int .i64 (cmp k x)) W := fun W => by
  rcases cases4 hk with rfl | rfl | rfl | rfl <;> kernel_rfl
theorem B4.cmp {x : Q} {m : Int} (h : B4 x m) {k : Nat} (hk : k < 4) : -m ≤ cmp k x ∧ cmp k x ≤ m := by
  rcases cases4 hk with rfl | rfl | rfl | rfl
  · exact h.a
  · exact h.b
  · exact h.c
  · exact h.d
theorem getD_set (l : List Int) (k j : Nat) (v : Int) (hk : k < l.length) : (l.set k v).getD j 0 = if j = k then v else l.getD j 0 := by
  rw [List.getD_eq_getElem?_getD, List.getD_eq_getElem?_getD, List.getElem?_set]
  by_cases h : j = k
  · subst h
    rw [if_pos rfl, if_pos rfl, if_pos hk]
    rfl
  · rw [if_neg (fun e => h e.symm), if_neg h]
/-- nothing but 1 divides all four numbers -/
def Prm (q : Q) : Prop := ∀ d : Int, (∀ j, j < 4 → d ∣ cmp j q) → d ∣ 1
/-- bounded, and in lowest terms -/
structure BP (q : Q) (m : Int) : Prop where
  b : B4 q m
  p : Prm q
set_option maxHeartbeats 3200000 in
theorem lowest_any (x : Q) (m : Int) (w : World) (hm : 0 ≤ m ∧ m ≤ 34359738368) (hx : B4 x m) (hne : ¬ Z4 x) : Calls Tryz.prog 95 #[.agg #[.int .i64 x.a, .int .i64 x.b, .int .i64 x.c, .int .i64 x.d]] w fun e w' => (∃ (y : Q) (k : Int), e = .returned (.agg #[.int .i64 y.a, .int .i64 y.b, .int .i64 y.c, .int .i64 y.d]) ∧ k ≠ 0 ∧ (∀ j, j < 4 → cmp j x = k * cmp j y) ∧ BP y m) ∧ Below w.heap.size w w' := by
  have HX := Lib.hid hx
  have HN := Lib.hid hne
  have HM := Lib.hid hm
  have HI := Lib.hid (fun (k : Nat) (hk : k < 4) => ixGq x hk)
  clear hx hne hm
  go_enter Tryz.func95, Tryz.ntmps95
  obtain ⟨W0, hW0⟩ : ∃ W0, W0 = (w.alloc (.cells #[.int .i64 x.a, .int .i64 x.b, .int .i64 x.c, .int .i64 x.d] 65)).alloc (.cells #[.int .i64 0, .int .i64 0, .int .i64 0, .int .i64 0] 65) := ⟨_, rfl⟩
  have W0P : IBox W0 w.heap.size [x.a, x.b, x.c, x.d] := by
    rw [hW0]
    exact ⟨fun i v hv => by
      match i, hv with
      | 0, hv => simp at hv; subst hv; simp [go_sem]
      | 1, hv => simp at hv; subst hv; simp [go_sem]
      | 2, hv => simp at hv; subst hv; simp [go_sem]
      | 3, hv => simp at hv; subst hv; simp [go_sem]
      | n + 4, hv => simp at hv, fun j => by simp [go_sem], by simp <;> omega⟩
  have W0R : IBox W0 (w.heap.size + 1) [0, 0, 0, 0] := by
    rw [hW0]
    exact ⟨fun i v hv => by
      match i, hv with
      | 0, hv => simp at hv; subst hv; simp [go_sem]
      | 1, hv => simp at hv; subst hv; simp [go_sem]
      | 2, hv => simp at hv; subst hv; simp [go_sem]
      | 3, hv => simp at hv; subst hv; simp [go_sem]
      | n + 4, hv => simp at hv, fun j => by simp [go_sem], by simp⟩
  have hb0 : Below w.heap.size w W0 := by rw [hW0]; repeat (first | (with_reducible exact Below.refl _ _) | (with_reducible refine Below.setCell ?_ ?_ _) | (with_reducible refine Below.drew ?_) | (with_reducible refine Below.alloc ?_ ?_ _) | omega | (simp <;> omega))
  have P0 := Lib.hid W0P
  have R0 := Lib.hid W0R
  clear W0P W0R
  go_wp2
  rw [← hW0]
  clear hW0
  go_loopw [3, 5, 8] (fun p _ q wr => ∃ (k : Nat) (g : Int), k ≤ 4 ∧ q = .int .i64 k ∧ p = .int .i64 g ∧ Hid (-m ≤ g ∧ g ≤ m) ∧ Hid ((∀ j, j < k → g ∣ cmp j x) ∧ ∀ d : Int, (∀ j, j < k → d ∣ cmp j x) → d ∣ g) ∧ Hid (Below W0.heap.size W0 wr)) (fun _ _ q _ => 4 - (intOf q).toNat)
  case atStart => exact ⟨0, 0, by omega, rfl, rfl, Lib.hid (by have := HM.out; omega), Lib.hid ⟨fun j hj => by omega, fun d _ => Int.dvd_zero d⟩, Lib.hid (Below.refl _ _)⟩
  case round =>
    obtain ⟨k, g0, hk, rfl, rfl, HG, HD, HB⟩ := hrel
    obtain ⟨wo, hwo⟩ : ∃ x, x = wr := ⟨_, rfl⟩
    subst hwo
    by_cases hlt : k < 4
    · have ik : (k : Int) < 4 := by omega
      have ix := HI.out k hlt
      have HC := Lib.hid (HX.out.cmp hlt)
      generalize hn0 : cmp k x = n0 at *
      have HN0 := Lib.hid hn0
      clear hn0
      go_wp2
      go_loopw [3, 5] (fun p q wr => ∃ g n : Int, p = .int .i64 g ∧ q = .int .i64 n ∧ Hid (-m ≤ g ∧ g ≤ m) ∧ Hid (-m ≤ n ∧ n ≤ m) ∧ Hid (∀ d, (d ∣ g ∧ d ∣ n) ↔ (d ∣ g0 ∧ d ∣ n0)) ∧ Hid (Below W0.heap.size W0 wr)) (fun _ q _ => (intOf q).natAbs)
      case atStart => exact ⟨g0, n0, rfl, rfl, HG, HC, Lib.hid (fun d => Iff.rfl), HB⟩
      case round =>
        obtain ⟨g, n, rfl, rfl, HG2, HN2, HD2, HB2⟩ := hrel
        clear HB
        by_cases h0 : n = 0
        · subst h0
          have hd := (HD2.out g).1 ⟨Int.dvd_refl g, Int.dvd_zero g⟩
          have hgd := fun (d : Int) (h1 : d ∣ g0) (h2 : d ∣ n0) => ((HD2.out d).2 ⟨h1, h2⟩).1
          have HD3 : Hid ((∀ j, j < k + 1 → g ∣ cmp j x) ∧ ∀ d : Int, (∀ j, j < k + 1 → d ∣ cmp j x) → d ∣ g) := Lib.hid ⟨fun j hj => by
            by_cases h : j = k
            · subst h; rw [HN0.out]; exact hd.2
            · exact Int.dvd_trans hd.1 (HD.out.1 j (by omega)), fun d hdj => hgd d (HD.out.2 d fun j hj => hdj j (by omega)) (by rw [← HN0.out]; exact hdj k (by omega))⟩
          clear hd hgd
          go_wp2
          exact ⟨⟨k + 1, g, by omega, by go_num, rfl, HG2, HD3, HB2⟩, by simp [intOf]; omega⟩
        · have h0' : (n != 0) = true := by simpa using h0
          have h1' : (n == 0) = false := by simpa using h0
          have ht := tmod_small g n h0
          have hdf := Int.tmod_def g n
          have hg2 := HG2.out
          have hn2 := HN2.out
          have HD4 : Hid (∀ d, (d ∣ n ∧ d ∣ g.tmod n) ↔ (d ∣ g0 ∧ d ∣ n0)) := Lib.hid (fun d => (show (d ∣ n ∧ d ∣ g.tmod n) ↔ (d ∣ g ∧ d ∣ n) from ⟨fun ⟨h1, h2⟩ => ⟨by
            have e : g = g.tmod n + n * g.tdiv n := by omega
            rw [e]
            exact Int.dvd_add h2 (Int.dvd_mul_of_dvd_left h1), h1⟩, fun ⟨h1, h2⟩ => ⟨h2, by
            have e : g.tmod n = g - n * g.tdiv n := by omega
            rw [e]
            exact Int.dvd_sub h1 (Int.dvd_mul_of_dvd_left h2)⟩⟩).trans (HD2.out d))
          have HT : Hid (-m ≤ g.tmod n ∧ g.tmod n ≤ m) := Lib.hid (by omega)
          have HM4 : Hid ((g.tmod n).natAbs < n.natAbs) := Lib.hid ht
          have mm := HM.out
          have ew : IntKind.i64.wrap (g.tmod n) = g.tmod n := IntWalk.i64_in _ (by omega)
          clear ht hdf hg2 hn2 mm
          go_wp2
          go_quiet (fail)
          go_wp2
          exact ⟨⟨n, g.tmod n, rfl, rfl, HN2, HT, HD4, by have hb := HB2.out; exact Lib.hid ⟨hb.os, hb.tape, hb.output, hb.size, hb.block⟩⟩, by have := HM4.out; simpa [intOf] using this⟩
    · obtain rfl : k = 4 := by omega
      have hg0 : g0 ≠ 0 := fun e => by
        subst e
        have h0 := fun j (hj : j < 4) => Int.zero_dvd.1 (HD.out.1 j hj)
        exact HN.out ⟨h0 0 (by decide), h0 1 (by decide), h0 2 (by decide), h0 3 (by decide)⟩
      have hg0' : (g0 == 0) = false := by simpa using hg0
      have P1 := Lib.hid (P0.out.later HB.out)
      have R1 := Lib.hid (R0.out.later HB.out)
      have B1 := Lib.hid (hb0.trans (HB.out.mono hb0.size))
      have ws := hb0.size
      have HGN := Lib.hid hg0
      clear HB P0 R0
      go_wp2
      go_loopw [6, 18] (fun _ q wr => ∃ (k : Nat) (l : List Int), k ≤ 4 ∧ q = .int .i64 k ∧ Hid (l.length = 4) ∧ Hid (∀ j, j < k → cmp j x = g0 * l.getD j 0) ∧ Hid (∀ j, k ≤ j → j < 4 → l.getD j 0 = cmp j x) ∧ Hid (∀ j, j < 4 → -m ≤ l.getD j 0 ∧ l.getD j 0 ≤ m) ∧ Hid (IBox wr w.heap.size l) ∧ Hid (IBox wr (w.heap.size + 1) [0, 0, 0, 0]) ∧ Hid (Below w.heap.size w wr)) (fun _ q _ => 4 - (intOf q).toNat)
      case atStart => exact ⟨0, [x.a, x.b, x.c, x.d], by omega, rfl, Lib.hid rfl, Lib.hid (fun j hj => by omega), Lib.hid (fun j _ hj => by rcases cases4 hj with rfl | rfl | rfl | rfl <;> rfl), Lib.hid (fun j hj => by rcases cases4 hj with rfl | rfl | rfl | rfl; exact HX.out.a; exact HX.out.b; exact HX.out.c; exact HX.out.d), P1, R1, B1⟩
      case round =>
        obtain ⟨k, l, hk, rfl, HL, HA, HE, HBd, HP, HR, HB⟩ := hrel
        clear P1 R1 B1
        by_cases hlt : k < 4
        · have ik : (k : Int) < 4 := by omega
          have hkl : k < l.length := by rw [HL.out]; exact hlt
          have c0 := HP.out.at (i := k) (x := l.getD k 0) (by rw [List.getD_eq_getElem?_getD, List.getElem?_eq_getElem hkl]; rfl)
          have fp := HP.out.free
          have lp := HP.out.lt
          have hv := HE.out k (Nat.le_refl _) hlt
          obtain ⟨y, hy⟩ := HD.out.1 k hlt
          have hq : (l.getD k 0).tdiv g0 = y := by rw [hv, hy]; exact Int.mul_tdiv_cancel_left _ hg0
          have hyb : -m ≤ y ∧ y ≤ m := by
            have h1 := HX.out.cmp hlt
            rw [hy] at h1
            have h2 : y.natAbs ≤ (g0 * y).natAbs := by
              rw [Int.natAbs_mul]
              exact Nat.le_mul_of_pos_left _ (Int.natAbs_pos.2 hg0)
            generalize g0 * y = z at *
            omega
          have mm := HM.out
          have ew : IntKind.i64.wrap ((l.getD k 0).tdiv g0) = y := by rw [hq]; exact IntWalk.i64_in _ (by omega)
          have HP2 := Lib.hid (HP.out.put k hkl y)
          have HR2 := Lib.hid (HR.out.other (b := w.heap.size) (o := k) (v := .int .i64 y) (by omega))
          have HB2 := Lib.hid (HB.out.setCell (p := ⟨w.heap.size, k, none⟩) (Nat.le_refl _) (.int .i64 y))
          have HL2 : Hid ((l.set k y).length = 4) := Lib.hid (by rw [List.length_set]; exact HL.out)
          have HA2 : Hid (∀ j, j < k + 1 → cmp j x = g0 * (l.set k y).getD j 0) := Lib.hid (fun j hj => by
            rw [getD_set _ _ _ _ hkl]
            by_cases h : j = k
            · subst h; rw [if_pos rfl]; exact hy
            · rw [if_neg h]; exact HA.out j (by omega))
          have HE2 : Hid (∀ j, k + 1 ≤ j → j < 4 → (l.set k y).getD j 0 = cmp j x) := Lib.hid (fun j h1 h2 => by
            rw [getD_set _ _ _ _ hkl, if_neg (by omega)]
            exact HE.out j (by omega) h2)
          have HBd2 : Hid (∀ j, j < 4 → -m ≤ (l.set k y).getD j 0 ∧ (l.set k y).getD j 0 ≤ m) := Lib.hid (fun j hj => by
            rw [getD_set _ _ _ _ hkl]
            by_cases h : j = k
            · rw [if_pos h]; exact hyb
            · rw [if_neg h]; exact HBd.out j hj)
          clear hv hy hq hyb mm HP HR HB HL HA HE HBd hkl
          generalize l.getD k 0 = lv at *
          generalize l.set k y = l' at *
          go_wp2
          exact ⟨⟨k + 1, l', by omega, by go_num, HL2, HA2, HE2, HBd2, HP2, HR2, HB2⟩, by simp [intOf]; omega⟩
        · obtain rfl : k = 4 := by omega
          obtain ⟨y0, y1, y2, y3, rfl⟩ : ∃ y0 y1 y2 y3, l = [y0, y1, y2, y3] := by
            match l, HL.out with
            | [a, b, c, d], _ => exact ⟨a, b, c, d, rfl⟩
          have p0 := HP.out.at (i := 0) (x := y0) rfl
          have p1 := HP.out.at (i := 1) (x := y1) rfl
          have p2 := HP.out.at (i := 2) (x := y2) rfl
          have p3 := HP.out.at (i := 3) (x := y3) rfl
          have rf := HR.out.free
          have rl := HR.out.lt
          have r0 := HR.out.at (i := 0) (x := 0) rfl
          have r1 := HR.out.at (i := 1) (x := 0) rfl
          have r2 := HR.out.at (i := 2) (x := 0) rfl
          have r3 := HR.out.at (i := 3) (x := 0) rfl
          have hb := HB.out
          have HBB := Lib.hid ((HB.out.grown (grown_setCells (w.heap.size + 1) [.int .i64 y0, .int .i64 y1, .int .i64 y2, .int .i64 y3] 0 wr) HB.out.size (fun j e => by cases e; omega)))
          have HY : Hid (B4 ⟨y0, y1, y2, y3, 0⟩ m) := Lib.hid ⟨HBd.out 0 (by decide), HBd.out 1 (by decide), HBd.out 2 (by decide), HBd.out 3 (by decide)⟩
          have HZ : Hid (∀ j, j < 4 → cmp j x = g0 * cmp j ⟨y0, y1, y2, y3, 0⟩) := Lib.hid (fun j hj => by
            have := HA.out j hj
            rcases cases4 hj with rfl | rfl | rfl | rfl <;> exact this)
          have HPR : Hid (Prm ⟨y0, y1, y2, y3, 0⟩) := Lib.hid (fun d hd => by
            have h1 : g0 * d ∣ g0 := HD.out.2 (g0 * d) (fun j hj => by
              rw [HZ.out j hj]
              exact Int.mul_dvd_mul_left g0 (hd j hj))
            obtain ⟨z, hz⟩ := h1
            have hg0 : g0 ≠ 0 := HGN.out
            refine ⟨z, ?_⟩
            have h2 : g0 * (d * z) = g0 * 1 := by rw [← Int.mul_assoc, ← hz, Int.mul_one]
            exact (Int.eq_of_mul_eq_mul_left hg0 h2).symm)
          clear hb
          go_wp2
          refine bodyPost_ret (v := .agg #[.int .i64 (⟨y0, y1, y2, y3, 0⟩ : Q).a, .int .i64 (⟨y0, y1, y2, y3, 0⟩ : Q).b, .int .i64 (⟨y0, y1, y2, y3, 0⟩ : Q).c, .int .i64 (⟨y0, y1, y2, y3, 0⟩ : Q).d]) ?_ rfl ⟨⟨⟨y0, y1, y2, y3, 0⟩, g0, rfl, HGN.out, HZ.out, ⟨HY.out, HPR.out⟩⟩, HBB.out⟩
          simp [results, Tryz.results95, go_sem, r0, r1, r2, r3, rl]
end Go.Proofs.YtkgihmhehkaocaaGreat

/- A basis that is narrowed by an equation, as the program makes it.
Conditions: the bounds written at each theorem. -/
namespace Go.Proofs.YtkgihmhehkaocaaGreat
set_option linter.unusedVariables false
set_option linter.unusedSimpArgs false
set_option maxRecDepth 1000000
open Go.RowKit
open Um Tm

def q4 (q : Q) : List Int := [q.a, q.b, q.c, q.d]
def flq (B : List Q) : List Int := B.flatMap q4
theorem flq_len (B : List Q) : (flq B).length = B.length * 4 := flat_len q4 4 (fun _ => rfl) B
theorem flq_snoc (B : List Q) (y : Q) : flq (B ++ [y]) = flq B ++ q4 y := by simp [flq]
theorem liesq {w : World} {b off : Nat} {B : List Q} (h : LiesI w b off (flq B)) {i : Nat} {q : Q} (hx : B[i]? = some q) : w.cell? ⟨b, off + i * 4, none⟩ = some (.int .i64 q.a) ∧ w.cell? ⟨b, off + i * 4 + 1, none⟩ = some (.int .i64 q.b) ∧ w.cell? ⟨b, off + i * 4 + 2, none⟩ = some (.int .i64 q.c) ∧ w.cell? ⟨b, off + i * 4 + 3, none⟩ = some (.int .i64 q.d) := by
  have k := flat_get q4 4 (fun _ => rfl) B i q hx
  exact ⟨h _ _ (k 0 (by decide)), h _ _ (k 1 (by decide)), h _ _ (k 2 (by decide)), h _ _ (k 3 (by decide))⟩
theorem IBox.new4G {w : World} {T : TypeId} {x0 x1 x2 x3 : Int} : IBox (w.alloc (.cells #[.int .i64 x0, .int .i64 x1, .int .i64 x2, .int .i64 x3] T)) w.heap.size [x0, x1, x2, x3] := ⟨fun i v hv => by
  match i, hv with
  | 0, hv => simp at hv; subst hv; simp [go_sem]
  | 1, hv => simp at hv; subst hv; simp [go_sem]
  | 2, hv => simp at hv; subst hv; simp [go_sem]
  | 3, hv => simp at hv; subst hv; simp [go_sem]
  | n + 4, hv => simp at hv, fun j => by simp [go_sem], by simp⟩
theorem four_cellsG {w : World} {b : Nat} {vs : List Value} {v0 v1 v2 v3 : Value} (hv : vs = [v0, v1, v2, v3]) (h0 : w.cell? ⟨b, 0, none⟩ = some v0) (h1 : w.cell? ⟨b, 1, none⟩ = some v1) (h2 : w.cell? ⟨b, 2, none⟩ = some v2) (h3 : w.cell? ⟨b, 3, none⟩ = some v3) : ∀ j u, vs[j]? = some u → w.cell? (Addr.add ⟨b, 0, none⟩ j) = some u := fun j u hj => by
  subst hv
  match j, hj with
  | 0, hj => simp at hj; subst hj; simpa [Addr.add] using h0
  | 1, hj => simp at hj; subst hj; simpa [Addr.add] using h1
  | 2, hj => simp at hj; subst hj; simpa [Addr.add] using h2
  | 3, hj => simp at hj; subst hj; simpa [Addr.add] using h3
  | n + 4, hj => simp at hj
theorem four_oneG (l : List Int) : ∀ u ∈ l.map vi, u.oneCell' = true := fun u hu => by obtain ⟨z, -, rfl⟩ := List.mem_map.1 hu; rfl
theorem infoQn : (Tryz.prog.info? 65).map (fun i => (i.zero, i.size, i.bytes)) = some (some (.agg #[.int .i64 0, .int .i64 0, .int .i64 0, .int .i64 0]), 4, 32) := by kernel_rfl
theorem dot_bnd {e q : Q} {m : Int} (he : B4 e 4) (hq : B4 q m) : -(16 * m) ≤ dot4 e q ∧ dot4 e q ≤ 16 * m := by
  obtain ⟨a1, a2⟩ := mul_le2 (by decide) he.a hq.a
  obtain ⟨b1, b2⟩ := mul_le2 (by decide) he.b hq.b
  obtain ⟨c1, c2⟩ := mul_le2 (by decide) he.c hq.c
  obtain ⟨d1, d2⟩ := mul_le2 (by decide) he.d hq.d
  unfold dot4
  omega
set_option maxHeartbeats 1600000 in
theorem gqAt_big (x y : Q) (w : World) (hx : B4 x 4) (hy : B4 y 34359738368) : Calls Tryz.prog 49 #[.agg #[.int .i64 x.a, .int .i64 x.b, .int .i64 x.c, .int .i64 x.d], .agg #[.int .i64 y.a, .int .i64 y.b, .int .i64 y.c, .int .i64 y.d]] w fun e w' => e = .returned (.int .i64 (dot4 x y)) ∧ Below w.heap.size w w' := by
  obtain ⟨aa1, aa2⟩ := mul_le2 (by decide) hx.a hy.a
  obtain ⟨bb1, bb2⟩ := mul_le2 (by decide) hx.b hy.b
  obtain ⟨cc1, cc2⟩ := mul_le2 (by decide) hx.c hy.c
  obtain ⟨dd1, dd2⟩ := mul_le2 (by decide) hx.d hy.d
  clear hx hy
  go_enter Tryz.func49, Tryz.ntmps49
  go_wp2
  go_ret
  exact ⟨by unfold dot4; rfl, by repeat (first | (with_reducible exact Below.refl _ _) | (with_reducible refine Below.setCell ?_ ?_ _) | (with_reducible refine Below.drew ?_) | (with_reducible refine Below.alloc ?_ ?_ _) | omega | (simp <;> omega))⟩
theorem NrL.snoc {e w q q' : Q} {l l' : List Q} (h : NrL e w l l') (hq : Nr e w q q') : NrL e w (l ++ [q]) (l' ++ [q']) := by
  induction h with
  | nil => exact .cons hq .nil
  | cons h1 _ ih => exact .cons h1 ih
/-- what lies in memory while a basis is narrowed -/
structure Nw (w X : World) (wq e : Q) : Prop where
  e : IBox X w.heap.size (q4 e)
  q : IBox X (w.heap.size + 1) (q4 wq)
  b : Below w.heap.size w X
theorem Nw.later {w X Y : World} {wq e : Q} (h : Nw w X wq e) (hb : Below X.heap.size X Y) : Nw w Y wq e := ⟨h.e.later hb, h.q.later hb, h.b.trans (hb.mono h.b.size)⟩
theorem Nw.put {w X : World} {wq e : Q} (h : Nw w X wq e) {b o : Nat} (v : Value) (hb : w.heap.size + 1 < b) : Nw w (X.setCell ⟨b, o, none⟩ v) wq e := ⟨h.e.other (by omega), h.q.other (by omega), h.b.setCell (p := ⟨b, o, none⟩) (by show w.heap.size ≤ b; omega) v⟩
theorem Nw.grown {w X Y : World} {wq e : Q} {row : Option Nat} (h : Nw w X wq e) (hg : X.grownBy Y row) (hne : ∀ j, row = some j → w.heap.size + 2 ≤ j) : Nw w Y wq e := ⟨h.e.grown hg (fun e => by have := hne _ e.symm; omega), h.q.grown hg (fun e => by have := hne _ e.symm; omega), h.b.grown hg h.b.size (fun j hj => by have := hne j hj; omega)⟩
/-- the vector that is taken, coordinate by coordinate -/
def nrv (e w q : Q) : Q := ⟨dot4 e w * q.a - dot4 e q * w.a, dot4 e w * q.b - dot4 e q * w.b, dot4 e w * q.c - dot4 e q * w.c, dot4 e w * q.d - dot4 e q * w.d, 0⟩
theorem nrv_cmp (e w q : Q) (j : Nat) (hj : j < 4) : cmp j (nrv e w q) = dot4 e w * cmp j q - dot4 e q * cmp j w := by
  rcases cases4 hj with rfl | rfl | rfl | rfl <;> rfl
set_option maxHeartbeats 12800000 in
theorem narrowed_any (B1 B2 : List Q) (wq e : Q) (bo off cap : Nat) (m m' : Int) (w : World) (h : LiesI w bo off (flq (B1 ++ wq :: B2))) (he : B4 e 4) (hB : ∀ q ∈ B1 ++ wq :: B2, B4 q m) (hm : 0 ≤ m ∧ m ≤ 34359738368) (hmm : B1 ++ B2 ≠ [] → 2 * (16 * m * m) ≤ m' ∧ m' ≤ 34359738368) (hi : Ind (B1 ++ wq :: B2)) (hD : dot4 e wq ≠ 0) (hlen : (B1 ++ wq :: B2).length ≤ 4) : Calls Tryz.prog 61 #[.slice (some ⟨bo, off, none⟩) (B1 ++ wq :: B2).length cap, .int .i64 (B1.length : Int), .agg #[.int .i64 e.a, .int .i64 e.b, .int .i64 e.c, .int .i64 e.d]] w fun e' w' => (∃ (B' : List Q) (v : Value), e' = .returned v ∧ NrL e wq (B1 ++ B2) B' ∧ (∀ q ∈ B', BP q m') ∧ w'.ownsRow (w.heap.size + 2) 65 4 v B'.length ((flq B').map vi)) ∧ Below w.heap.size w w' := by
  obtain ⟨i0, hi0, hz0, hz1, hz2⟩ := info_parts infoQn
  have hBi : (B1 ++ wq :: B2)[B1.length]? = some wq := by simp
  have hBe : (B1 ++ wq :: B2).eraseIdx B1.length = B1 ++ B2 := by simp [List.eraseIdx_append]
  have cK : ∀ (k : Nat) (q : Q), (B1 ++ wq :: B2)[k]? = some q → k ≠ B1.length → Hid (∀ W : World, Calls Tryz.prog 49 #[.agg #[.int .i64 e.a, .int .i64 e.b, .int .i64 e.c, .int .i64 e.d], .agg #[.int .i64 q.a, .int .i64 q.b, .int .i64 q.c, .int .i64 q.d]] W fun e' w' => e' = .returned (.int .i64 (dot4 e q)) ∧ Below W.heap.size W w') ∧ Hid (∀ W : World, Calls Tryz.prog 95 #[.agg #[.int .i64 (nrv e wq q).a, .int .i64 (nrv e wq q).b, .int .i64 (nrv e wq q).c, .int .i64 (nrv e wq q).d]] W fun e' w' => (∃ (y : Q) (k : Int), e' = .returned (.agg #[.int .i64 y.a, .int .i64 y.b, .int .i64 y.c, .int .i64 y.d]) ∧ k ≠ 0 ∧ (∀ j, j < 4 → cmp j (nrv e wq q) = k * cmp j y) ∧ BP y m') ∧ Below W.heap.size W w') ∧ Hid (∀ n, n < 4 → IntKind.i64.wrap (dot4 e wq * cmp n q) = dot4 e wq * cmp n q ∧ IntKind.i64.wrap (dot4 e q * cmp n wq) = dot4 e q * cmp n wq ∧ IntKind.i64.wrap (dot4 e wq * cmp n q - dot4 e q * cmp n wq) = dot4 e wq * cmp n q - dot4 e q * cmp n wq) := fun k q hk hne => by
    have hq := hB q (List.mem_of_getElem? hk)
    have hw := hB wq (List.mem_of_getElem? hBi)
    have hmem : q ∈ B1 ++ B2 := by
      rw [← hBe]
      exact List.mem_eraseIdx_iff_getElem?.2 ⟨k, hne, hk⟩
    have hnn : B1 ++ B2 ≠ [] := fun h0 => by rw [h0] at hmem; simp at hmem
    obtain ⟨mm1, mm2⟩ := hmm hnn
    have dw := dot_bnd he hw
    have dq := dot_bnd he hq
    have hb : ∀ n, n < 4 → (-(16 * m * m) ≤ dot4 e wq * cmp n q ∧ dot4 e wq * cmp n q ≤ 16 * m * m) ∧ (-(16 * m * m) ≤ dot4 e q * cmp n wq ∧ dot4 e q * cmp n wq ≤ 16 * m * m) := fun n hn => ⟨mul_le2 (by omega) dw (hq.cmp hn), mul_le2 (by omega) dq (hw.cmp hn)⟩
    have hnz : ¬ Z4 (nrv e wq q) := fun hz => hi.sum_ne hD hmem (fun j hj => by
      rw [← nrv_cmp e wq q j hj]
      rcases cases4 hj with rfl | rfl | rfl | rfl
      · exact hz.1
      · exact hz.2.1
      · exact hz.2.2.1
      · exact hz.2.2.2)
    have hv : B4 (nrv e wq q) m' := by
      have k0 := hb 0 (by decide)
      have k1 := hb 1 (by decide)
      have k2 := hb 2 (by decide)
      have k3 := hb 3 (by decide)
      simp only [cmp] at k0 k1 k2 k3
      simp at k0 k1 k2 k3
      generalize 16 * m * m = u at *
      exact ⟨by simp only [nrv]; omega, by simp only [nrv]; omega, by simp only [nrv]; omega, by simp only [nrv]; omega⟩
    have m0 : 0 ≤ 16 * m * m := Int.mul_nonneg (by omega) hm.1
    refine ⟨Lib.hid (fun W => gqAt_big e q W he ⟨by have := hq.a; omega, by have := hq.b; omega, by have := hq.c; omega, by have := hq.d; omega⟩), Lib.hid (fun W => lowest_any _ m' W ⟨by omega, mm2⟩ hv hnz), Lib.hid (fun n hn => ?_)⟩
    have k0 := hb n hn
    generalize 16 * m * m = u at *
    exact ⟨IntWalk.i64_in _ (by omega), IntWalk.i64_in _ (by omega), IntWalk.i64_in _ (by omega)⟩
  have hwm := hB wq (List.mem_of_getElem? hBi)
  have dA : ∀ W : World, Calls Tryz.prog 49 #[.agg #[.int .i64 e.a, .int .i64 e.b, .int .i64 e.c, .int .i64 e.d], .agg #[.int .i64 wq.a, .int .i64 wq.b, .int .i64 wq.c, .int .i64 wq.d]] W fun e' w' => e' = .returned (.int .i64 (dot4 e wq)) ∧ Below W.heap.size W w' := fun W => gqAt_big e wq W he ⟨by have := hwm.a; omega, by have := hwm.b; omega, by have := hwm.c; omega, by have := hwm.d; omega⟩
  have H := Lib.hid h
  have HK := Lib.hid cK
  have HBe := Lib.hid hBe
  have HBi := Lib.hid hBi
  have HBL := Lib.hid (show B1.length < (B1 ++ wq :: B2).length by simp)
  have HL4 := Lib.hid hlen
  have HDA := Lib.hid dA
  clear h he hB hm hmm hi hD cK hBe hBi hwm dA hlen
  generalize hBB : B1 ++ wq :: B2 = B at *
  generalize hBC : B1 ++ B2 = C at *
  clear hBB hBC
  generalize B1.length = i at *
  go_enter Tryz.func61, Tryz.ntmps61
  obtain ⟨l0, l1, l2, l3⟩ := liesq H.out HBi.out
  have lb := World.block_lt_of_cell? _ _ l0
  have ii : (i : Int) < (B.length : Int) := by have := HBL.out; omega
  go_wp2
  have NW0 : Nw w ((w.alloc (.cells #[.int .i64 e.a, .int .i64 e.b, .int .i64 e.c, .int .i64 e.d] 90)).alloc (.cells #[.int .i64 wq.a, .int .i64 wq.b, .int .i64 wq.c, .int .i64 wq.d] 65)) wq e := ⟨IBox.new4G.later ba1, by
    have := IBox.new4G (w := w.alloc (.cells #[.int .i64 e.a, .int .i64 e.b, .int .i64 e.c, .int .i64 e.d] 90)) (T := 65) (x0 := wq.a) (x1 := wq.b) (x2 := wq.c) (x3 := wq.d)
    simp at this
    exact this, ba2⟩
  have HN0 := Lib.hid NW0
  clear NW0 l0 l1 l2 l3
  generalize (w.alloc (.cells #[.int .i64 e.a, .int .i64 e.b, .int .i64 e.c, .int .i64 e.d] 90)).alloc (.cells #[.int .i64 wq.a, .int .i64 wq.b, .int .i64 wq.c, .int .i64 wq.d] 65) = W0 at *
  go_loopw [8, 9, 10, 11, 12, 19, 28] (fun v _ _ _ _ q _ wr => ∃ (k : Nat) (B' : List Q), k ≤ B.length ∧ q = .int .i64 k ∧ Hid (NrL e wq ((B.take k).eraseIdx i) B') ∧ Hid (∀ q ∈ B', BP q m') ∧ Hid (wr.ownsRow (w.heap.size + 2) 65 4 v B'.length ((flq B').map vi)) ∧ Hid (Nw w wr wq e)) (fun _ _ _ _ _ q _ _ => B.length - (intOf q).toNat)
  case atStart => exact ⟨0, [], by omega, rfl, Lib.hid (by simp; exact .nil), Lib.hid (fun q hq => by simp at hq), Lib.hid (World.ownsRow_nil _ _ _ _), HN0⟩
  case round =>
    obtain ⟨k, B', hk, rfl, HR, HM, HO, HN⟩ := hrel
    clear HN0
    obtain ⟨ro, rc, rfl⟩ := owned_formG HO.out
    by_cases hlt : k < B.length
    · have hx := List.getElem?_eq_getElem hlt
      have hT : (B.take (k + 1)).eraseIdx i = if k = i then (B.take k).eraseIdx i else (B.take k).eraseIdx i ++ [B[k]] := by
        rw [List.take_succ_eq_append_getElem hlt]
        have htl : (B.take k).length = k := by rw [List.length_take]; omega
        by_cases hki : k = i
        · subst hki
          rw [if_pos rfl, List.eraseIdx_append_of_length_le (by omega), htl, Nat.sub_self, List.eraseIdx_of_length_le (l := B.take k) (by omega)]
          simp
        · rw [if_neg hki]
          by_cases hlt2 : k < i
          · rw [List.eraseIdx_of_length_le (by simp; omega), List.eraseIdx_of_length_le (by simp; omega)]
          · rw [List.eraseIdx_append_of_lt_length (by simp; omega)]
      have HT := Lib.hid hT
      have hb := HN.out.b
      obtain ⟨l0, l1, l2, l3⟩ := liesq (H.out.later hb) hx
      have ik : (k : Int) < (B.length : Int) := by omega
      have lb1 := World.block_lt_of_cell? _ _ l0
      clear hT
      by_cases hki : k = i
      · subst hki
        have HT2 : Hid (NrL e wq ((B.take (k + 1)).eraseIdx k) B') := Lib.hid (by rw [HT.out, if_pos rfl]; exact HR.out)
        generalize hqq : B[k] = q at *
        clear hqq hx HT
        have HN1 := Lib.hid (HN.out.later (ba1 (o := .cells #[.int .i64 q.a, .int .i64 q.b, .int .i64 q.c, .int .i64 q.d] 65)))
        have HO1 := Lib.hid (owned_later HO.out (ba1 (o := .cells #[.int .i64 q.a, .int .i64 q.b, .int .i64 q.c, .int .i64 q.d] 65)))
        have h4 := HL4.out
        clear HN HO hb
        go_wp2
        exact ⟨⟨k + 1, B', by omega, by go_num, HT2, HM, HO1, HN1⟩, by simp [intOf]; omega⟩
      · have hki' : ((k : Int) == (i : Int)) = false := by simpa using (by omega : ¬ (k : Int) = (i : Int))
        obtain ⟨dB, cL, cW⟩ := HK.out k _ hx hki
        have HT2 : Hid ((B.take (k + 1)).eraseIdx i = (B.take k).eraseIdx i ++ [B[k]]) := Lib.hid (by rw [HT.out, if_neg hki])
        generalize hqq : B[k] = q at *
        clear hqq hx HT hki
        go_wp2
        have X0 : IBox ((wr.alloc (.cells #[.int .i64 q.a, .int .i64 q.b, .int .i64 q.c, .int .i64 q.d] 65)).alloc (.cells #[.int .i64 0, .int .i64 0, .int .i64 0, .int .i64 0] 65)) wr.heap.size [q.a, q.b, q.c, q.d] := IBox.new4G.later ba1
        have S0 : IBox ((wr.alloc (.cells #[.int .i64 q.a, .int .i64 q.b, .int .i64 q.c, .int .i64 q.d] 65)).alloc (.cells #[.int .i64 0, .int .i64 0, .int .i64 0, .int .i64 0] 65)) (wr.heap.size + 1) [0, 0, 0, 0] := by
          have := IBox.new4G (w := wr.alloc (.cells #[.int .i64 q.a, .int .i64 q.b, .int .i64 q.c, .int .i64 q.d] 65)) (T := 65) (x0 := 0) (x1 := 0) (x2 := 0) (x3 := 0)
          simpa using this
        have N0 := HN.out.later (ba2 (o := .cells #[.int .i64 q.a, .int .i64 q.b, .int .i64 q.c, .int .i64 q.d] 65) (p := .cells #[.int .i64 0, .int .i64 0, .int .i64 0, .int .i64 0] 65))
        have O0 := owned_later HO.out (ba2 (o := .cells #[.int .i64 q.a, .int .i64 q.b, .int .i64 q.c, .int .i64 q.d] 65) (p := .cells #[.int .i64 0, .int .i64 0, .int .i64 0, .int .i64 0] 65))
        have HX0 := Lib.hid X0
        have HS0 := Lib.hid S0
        have HN0 := Lib.hid N0
        have HO0 := Lib.hid O0
        have BY0 : Below wr.heap.size wr ((wr.alloc (.cells #[.int .i64 q.a, .int .i64 q.b, .int .i64 q.c, .int .i64 q.d] 65)).alloc (.cells #[.int .i64 0, .int .i64 0, .int .i64 0, .int .i64 0] 65)) := ba2
        have pw : w.heap.size + 1 < wr.heap.size := HN.out.q.lt
        have HOW := Lib.hid HO.out
        have HY0 := Lib.hid BY0
        clear X0 S0 N0 O0 BY0 HN HO HO0 l0 l1 l2 l3 hb lb1
        generalize (wr.alloc (.cells #[.int .i64 q.a, .int .i64 q.b, .int .i64 q.c, .int .i64 q.d] 65)).alloc (.cells #[.int .i64 0, .int .i64 0, .int .i64 0, .int .i64 0] 65) = X0 at *
        obtain ⟨wo, hwo⟩ : ∃ x, x = wr := ⟨_, rfl⟩
        subst hwo
        go_loopw [12, 28] (fun _ q' wr => ∃ (n : Nat) (l : List Int), n ≤ 4 ∧ q' = .int .i64 n ∧ Hid (l.length = 4) ∧ Hid (∀ j, j < n → l.getD j 0 = cmp j (nrv e wq q)) ∧ Hid (IBox wr (wo.heap.size + 1) l) ∧ Hid (IBox wr wo.heap.size [q.a, q.b, q.c, q.d]) ∧ Hid (Nw w wr wq e) ∧ Hid (Below wo.heap.size wo wr)) (fun _ q' _ => 4 - (intOf q').toNat)
        case atStart => exact ⟨0, [0, 0, 0, 0], by omega, rfl, Lib.hid rfl, Lib.hid (fun j hj => by omega), HS0, HX0, HN0, HY0⟩
        case round =>
          obtain ⟨n, l, hn, rfl, HLl, HLv, HS, HX, HN, HY⟩ := hrel
          clear HS0 HX0 HN0 HY0
          by_cases hn4 : n < 4
          · have hnl : n < l.length := by rw [HLl.out]; exact hn4
            obtain ⟨p0, hp0⟩ : ∃ z, z = dot4 e wq * cmp n q := ⟨_, rfl⟩
            obtain ⟨r0, hr0⟩ : ∃ z, z = dot4 e q * cmp n wq := ⟨_, rfl⟩
            obtain ⟨v0, hv0⟩ : ∃ z, z = p0 - r0 := ⟨_, rfl⟩
            have HV0 : Hid (v0 = cmp n (nrv e wq q)) := Lib.hid (by rw [hv0, hp0, hr0, nrv_cmp _ _ _ _ hn4])
            have e0 : IntKind.i64.wrap (dot4 e wq * cmp n q) = p0 := (cW.out n hn4).1.trans hp0.symm
            have f0 : IntKind.i64.wrap (dot4 e q * cmp n wq) = r0 := (cW.out n hn4).2.1.trans hr0.symm
            have g0 : IntKind.i64.wrap (p0 - r0) = v0 := by rw [hv0, hp0, hr0]; exact (cW.out n hn4).2.2
            have ea := HN.out.e.at (i := 0) (x := e.a) rfl
            have eb := HN.out.e.at (i := 1) (x := e.b) rfl
            have ec := HN.out.e.at (i := 2) (x := e.c) rfl
            have ed := HN.out.e.at (i := 3) (x := e.d) rfl
            have wa := HN.out.q.at (i := 0) (x := wq.a) rfl
            have wb := HN.out.q.at (i := 1) (x := wq.b) rfl
            have wc := HN.out.q.at (i := 2) (x := wq.c) rfl
            have wd := HN.out.q.at (i := 3) (x := wq.d) rfl
            have wn := HN.out.q.at (i := n) (x := cmp n wq) (by rcases cases4 hn4 with rfl | rfl | rfl | rfl <;> rfl)
            have xa := HX.out.at (i := 0) (x := q.a) rfl
            have xb := HX.out.at (i := 1) (x := q.b) rfl
            have xc := HX.out.at (i := 2) (x := q.c) rfl
            have xd := HX.out.at (i := 3) (x := q.d) rfl
            have xn := HX.out.at (i := n) (x := cmp n q) (by rcases cases4 hn4 with rfl | rfl | rfl | rfl <;> rfl)
            have la := HN.out.e.lt
            have lq := HN.out.q.lt
            have lx := HX.out.lt
            have ls := HS.out.lt
            have DA := HDA.out
            have DB := dB.out
            have in4 : (n : Int) < 4 := by omega
            clear hp0 hr0 hv0
            generalize cmp n q = qn at *
            generalize cmp n wq = wn' at *
            go_wp2
            refine Tail.region_tail_below 17 (by kernel_rfl) (by kernel_rfl) ?_
            simp only [List.take_succ_cons, List.take_zero, List.drop_succ_cons, List.drop_zero]
            have kc := @Tail.cell_re
            repeat (go_big_quiet_step (first | (with_reducible exact Calls.regrown_of (DA _)) | (with_reducible exact Calls.regrown_of (DB _))))
            refine wpQuiet_nil ?_
            intro y0 hy0
            have SS := Lib.hid (HS.out.later hy0)
            have XX := Lib.hid (HX.out.later hy0)
            have NN := Lib.hid (HN.out.later hy0)
            have YY := Lib.hid (HY.out.trans (hy0.mono HY.out.size))
            clear ea eb ec ed wa wb wc wd wn xa xb xc xd xn la lq lx ls DA DB kc hy0 HS HX HN HY e0 f0 g0
            have cS := SS.out.at (i := n) (x := l.getD n 0) (by rw [List.getD_eq_getElem?_getD, List.getElem?_eq_getElem hnl]; rfl)
            have fS := SS.out.free
            have lS := SS.out.lt
            have HS1 := Lib.hid (SS.out.put n hnl v0)
            have HX1 := Lib.hid (XX.out.other (b := wo.heap.size + 1) (o := n) (v := .int .i64 v0) (by omega))
            have HN1 := Lib.hid (NN.out.put (b := wo.heap.size + 1) (o := n) (.int .i64 v0) (by omega))
            have HY1 := Lib.hid (YY.out.setCell (p := ⟨wo.heap.size + 1, n, none⟩) (by show wo.heap.size ≤ wo.heap.size + 1; omega) (.int .i64 v0))
            have HLl1 : Hid ((l.set n v0).length = 4) := Lib.hid (by rw [List.length_set]; exact HLl.out)
            have HLv1 : Hid (∀ j, j < n + 1 → (l.set n v0).getD j 0 = cmp j (nrv e wq q)) := Lib.hid (fun j hj => by
              rw [getD_set _ _ _ _ hnl]
              by_cases h : j = n
              · rw [if_pos h, h]; exact HV0.out
              · rw [if_neg h]; exact HLv.out j (by omega))
            clear SS XX NN YY HLl HLv HV0 hnl
            generalize l.getD n 0 = lv at *
            generalize l.set n v0 = l' at *
            go_wp2
            exact ⟨⟨n + 1, l', by omega, by go_num, HLl1, HLv1, HS1, HX1, HN1, HY1⟩, by simp [intOf]; omega⟩
          · obtain rfl : n = 4 := by omega
            obtain ⟨v0, v1, v2, v3, rfl⟩ : ∃ v0 v1 v2 v3, l = [v0, v1, v2, v3] := by
              match l, HLl.out with
              | [a, b, c, d], _ => exact ⟨a, b, c, d, rfl⟩
            have hvv : nrv e wq q = ⟨v0, v1, v2, v3, 0⟩ := by
              have k0 := HLv.out 0 (by decide)
              have k1 := HLv.out 1 (by decide)
              have k2 := HLv.out 2 (by decide)
              have k3 := HLv.out 3 (by decide)
              change v0 = (nrv e wq q).a at k0
              change v1 = (nrv e wq q).b at k1
              change v2 = (nrv e wq q).c at k2
              change v3 = (nrv e wq q).d at k3
              rw [k0, k1, k2, k3]
              rfl
            have HS4 := HS
            have HX4 := HX
            have HN4 := HN
            have HY4 := HY
            clear HLl HLv HS HX HN HY
            have sa := HS4.out.at (i := 0) (x := v0) rfl
            have sb := HS4.out.at (i := 1) (x := v1) rfl
            have sc := HS4.out.at (i := 2) (x := v2) rfl
            have sd := HS4.out.at (i := 3) (x := v3) rfl
            have cL2 := cL.out
            rw [hvv] at cL2
            have HVV := Lib.hid hvv
            clear hvv cL dB cW
            go_wp2_with (fail)
            refine (cL2 _).mono ?_
            rintro e' w5 ⟨⟨y, kk, rfl, hk0, hyj, hyb⟩, hw5⟩
            have HN5 := Lib.hid (HN4.out.later hw5)
            have HY5 := Lib.hid (HY4.out.trans (hw5.mono HY4.out.size))
            have HO5 := Lib.hid (owned_later HOW.out HY5.out)
            have HNR : Hid (Nr e wq q y) := Lib.hid ⟨kk, hk0, fun j hj => by
              rw [← nrv_cmp e wq q j hj, HVV.out]
              exact hyj j hj⟩
            have HM5 : Hid (∀ q ∈ B' ++ [y], BP q m') := Lib.hid (fun x hx => by
              rcases List.mem_append.1 hx with hx | hx
              · exact HM.out x hx
              · rw [List.mem_singleton.1 hx]; exact hyb)
            have hbs := HN5.out.b.size
            have hq5 := HN5.out.q.lt
            have h4 := HL4.out
            have hB4 : B'.length ≤ 4 := by
              have h1 := HR.out.len
              have h2 : ((B.take k).eraseIdx i).length ≤ (B.take k).length := by rw [List.length_eraseIdx]; split <;> omega
              have h3 : (B.take k).length ≤ k := by simp; omega
              omega
            clear sa sb sc sd hw5 HN4 HY4 HS4 HX4 HOW hk0 hyj hyb cL2 HVV
            go_wp2_with (at_builtin; refine wpList_append_own _ rfl (.tmp 49) (.tmp 52) 63 rfl (w.heap.size + 2) 65 i0 _ 4 32 Tryz.underlying63 hi0 hz0 hz1 hz2 rfl (by decide) (.slice ro B'.length rc) B'.length ((flq B').map vi) rfl (HO5.out.alloc _) ⟨w5.heap.size, 0, none⟩ 1 1 [.int .i64 y.a, .int .i64 y.b, .int .i64 y.c, .int .i64 y.d] rfl rfl (four_cellsG rfl (by simp [go_sem]) (by simp [go_sem]) (by simp [go_sem]) (by simp [go_sem])) (four_oneG (q4 y)) (by unfold maxLen; omega) (by omega) (by simp; omega) ?_; intro v6 w6 hown6 hgrow6 _)
            have HN6 := Lib.hid ((HN5.out.later ((ba1 (o := .cells #[.int .i64 y.a, .int .i64 y.b, .int .i64 y.c, .int .i64 y.d] 65)))).grown hgrow6 (fun j hj => owned_from HO5.out j hj))
            have HO6 : Hid (w6.ownsRow (w.heap.size + 2) 65 4 v6 (B' ++ [y]).length ((flq (B' ++ [y])).map vi)) := Lib.hid (by rw [flq_snoc, List.map_append, List.length_append]; exact hown6)
            have HR6 : Hid (NrL e wq ((B.take (k + 1)).eraseIdx i) (B' ++ [y])) := Lib.hid (by rw [HT2.out]; exact HR.out.snoc HNR.out)
            clear hown6 hgrow6
            exact ⟨⟨k + 1, B' ++ [y], by omega, by go_num, HR6, HM5, HO6, HN6⟩, by simp [intOf]; omega⟩
    · obtain rfl : k = B.length := by omega
      have hr := HR.out
      rw [List.take_length, HBe.out] at hr
      have HR2 := Lib.hid hr
      clear hr HR
      go_wp2
      go_ret
      exact ⟨⟨B', _, rfl, HR2.out, HM.out, HO.out⟩, HN.out.b⟩
end Go.Proofs.YtkgihmhehkaocaaGreat

/- A basis of the solutions of equations: what each step keeps.
Conditions: the bounds written at each theorem. -/
namespace Go.Proofs.YtkgihmhehkaocaaGreat
set_option linter.unusedVariables false
set_option linter.unusedSimpArgs false
set_option maxRecDepth 1000000
open Go.RowKit
open Um Tm

/-- how great the numbers of a basis of so many quaternions are -/
def bd (n : Nat) : Int := if n = 4 then 1 else if n = 3 then 32 else if n = 2 then 32768 else 34359738368
theorem bd_rng (n : Nat) : 0 ≤ bd n ∧ bd n ≤ 34359738368 := by
  unfold bd
  split
  · decide
  · split
    · decide
    · split
      · decide
      · decide
/-- a basis of the quaternions that solve the first k equations -/
structure Bas (E : Nat → Q) (k : Nat) (B : List Q) : Prop where
  i : Ind B
  z : ∀ j, j < k → ∀ q ∈ B, dot4 (E j) q = 0
  s : Spn (fun q => ∀ j, j < k → dot4 (E j) q = 0) B
  l : B.length ≤ 4
  b : ∀ q ∈ B, B4 q (bd B.length)
  p : ∀ q ∈ B, Prm q
theorem Bas.start (E : Nat → Q) : Bas E 0 [un 0, un 1, un 2, un 3] := ⟨ind_un, fun j hj => by omega, fun q _ => spn_un q trivial, by decide, fun q hq => by
  simp at hq
  rcases hq with rfl | rfl | rfl | rfl <;> exact un_bnd, fun q hq d hd => by
  simp at hq
  rcases hq with rfl | rfl | rfl | rfl
  · exact hd 0 (by decide)
  · exact hd 1 (by decide)
  · exact hd 2 (by decide)
  · exact hd 3 (by decide)⟩
theorem Bas.keep {E : Nat → Q} {k : Nat} {B : List Q} (h : Bas E k B) (h0 : ∀ q ∈ B, dot4 (E k) q = 0) : Bas E (k + 1) B := ⟨h.i, fun j hj q hq => by
  by_cases hjk : j = k
  · subst hjk; exact h0 q hq
  · exact h.z j (by omega) q hq, fun q hq => h.s q (fun j hj => hq j (by omega)), h.l, h.b, h.p⟩
theorem split_get (B : List Q) {j : Nat} (hj : j < B.length) : B = B.take j ++ B[j] :: B.drop (j + 1) := by
  rw [← List.drop_eq_getElem_cons hj, List.take_append_drop]
theorem Bas.next {E : Nat → Q} {k j : Nat} {B B' : List Q} (h : Bas E k B) (hj : j < B.length) (hd : dot4 (E k) B[j] ≠ 0) (hn : NrL (E k) B[j] (B.take j ++ B.drop (j + 1)) B') (hb : ∀ q ∈ B', BP q (bd (B.length - 1))) : Bas E (k + 1) B' := by
  have hs := split_get B hj
  have hl : B'.length = B.length - 1 := by rw [hn.len]; simp; omega
  have hi := h.i
  have hsp := h.s
  rw [hs] at hi hsp
  refine ⟨hi.narrow hd hn, fun i hi2 q hq => ?_, fun q hq => hsp.narrow hd hn q ⟨fun i hi2 => hq i (by omega), hq k (by omega)⟩, by have := h.l; omega, fun q hq => by rw [hl]; exact (hb q hq).b, fun q hq => (hb q hq).p⟩
  by_cases hik : i = k
  · subst hik; exact hn.sol.1 q hq
  · have hz := h.z i (by omega)
    refine hn.sol.2 (E i) (hz _ (List.getElem_mem hj)) (fun x hx => hz x ?_) q hq
    rcases List.mem_append.1 hx with hx | hx
    · exact List.mem_of_mem_take hx
    · exact List.mem_of_mem_drop hx
theorem row_cells {w : World} {eb eoff n : Nat} {l : List Int} (h : LiesI w eb eoff l) (hl : l.length = n * 4) {j : Nat} (hj : j < n) : w.cell? ⟨eb, eoff + j * 4, none⟩ = some (.int .i64 (rowQ l j).a) ∧ w.cell? ⟨eb, eoff + j * 4 + 1, none⟩ = some (.int .i64 (rowQ l j).b) ∧ w.cell? ⟨eb, eoff + j * 4 + 2, none⟩ = some (.int .i64 (rowQ l j).c) ∧ w.cell? ⟨eb, eoff + j * 4 + 3, none⟩ = some (.int .i64 (rowQ l j).d) := by
  have key : ∀ c, c < 4 → w.cell? ⟨eb, eoff + (j * 4 + c), none⟩ = some (.int .i64 (l.getD (4 * j + c) 0)) := fun c hc => by
    have hlt : j * 4 + c < l.length := by omega
    refine h _ _ ?_
    rw [List.getD_eq_getElem?_getD, show 4 * j + c = j * 4 + c by omega, List.getElem?_eq_getElem hlt]
    rfl
  exact ⟨key 0 (by decide), key 1 (by decide), key 2 (by decide), key 3 (by decide)⟩
end Go.Proofs.YtkgihmhehkaocaaGreat

/- A basis of solutions is known up to signs: mathematics, no Go.
Conditions: those written at each theorem. -/
namespace Go.Proofs.YtkgihmhehkaocaaGreat
set_option linter.unusedVariables false
set_option linter.unusedSimpArgs false
set_option maxRecDepth 1000000
open Um Tm

/-- the same up to the sign -/
def Pm (q q' : Q) : Prop := ∃ s : Int, (s = 1 ∨ s = -1) ∧ ∀ j, j < 4 → cmp j q' = s * cmp j q
inductive PmL : List Q → List Q → Prop
  | nil : PmL [] []
  | cons {q q' : Q} {l l' : List Q} : Pm q q' → PmL l l' → PmL (q :: l) (q' :: l')
theorem Pm.refl (q : Q) : Pm q q := ⟨1, .inl rfl, fun j _ => by omega⟩
theorem PmL.refl : ∀ l : List Q, PmL l l
  | [] => .nil
  | q :: l => .cons (Pm.refl q) (PmL.refl l)
theorem PmL.len {l l' : List Q} (h : PmL l l') : l'.length = l.length := by
  induction h with
  | nil => rfl
  | cons _ _ ih => simp [ih]
theorem PmL.mid {q : Q} {B2 : List Q} : ∀ (B1 : List Q) (C : List Q), PmL (B1 ++ q :: B2) C → ∃ C1 w C2, C = C1 ++ w :: C2 ∧ PmL B1 C1 ∧ Pm q w ∧ PmL B2 C2
  | [], C, h => by
    cases h with
    | cons h1 h2 => exact ⟨[], _, _, rfl, .nil, h1, h2⟩
  | p :: B1, C, h => by
    cases h with
    | cons h1 h2 =>
      obtain ⟨C1, w, C2, rfl, h3, h4, h5⟩ := PmL.mid B1 _ h2
      exact ⟨_ :: C1, w, C2, rfl, .cons h1 h3, h4, h5⟩
theorem PmL.app {B1 C1 B2 C2 : List Q} (h : PmL B1 C1) (h2 : PmL B2 C2) : PmL (B1 ++ B2) (C1 ++ C2) := by
  induction h with
  | nil => exact h2
  | cons h1 _ ih => exact .cons h1 ih
theorem pm_dot {q q' : Q} {s : Int} (e : Q) (h : ∀ j, j < 4 → cmp j q' = s * cmp j q) : dot4 e q' = s * dot4 e q := by
  rw [dot4_cmp, dot4_cmp, h 0 (by decide), h 1 (by decide), h 2 (by decide), h 3 (by decide)]
  grind
/-- the greatest common divisor of the four numbers -/
def gc4 (v : Q) : Nat := Nat.gcd (Nat.gcd v.a.natAbs v.b.natAbs) (Nat.gcd v.c.natAbs v.d.natAbs)
def lowF (v : Q) : Q := ⟨v.a / (gc4 v : Int), v.b / (gc4 v : Int), v.c / (gc4 v : Int), v.d / (gc4 v : Int), 0⟩
def nrF (e w q : Q) : Q := lowF (nrv e w q)
/-- one equation, by the numbers alone -/
def stepF (e : Q) : List Q → List Q → List Q
  | pre, [] => pre
  | pre, q :: B => if dot4 e q = 0 then stepF e (pre ++ [q]) B else (pre ++ B).map (nrF e q)
def solF (E : Nat → Q) : Nat → List Q
  | 0 => [un 0, un 1, un 2, un 3]
  | k + 1 => stepF (E k) [] (solF E k)
theorem stepF_keep (e : Q) : ∀ (B pre : List Q), (∀ q ∈ B, dot4 e q = 0) → stepF e pre B = pre ++ B
  | [], pre, _ => by simp [stepF]
  | q :: B, pre, h => by
    rw [stepF, if_pos (h q List.mem_cons_self), stepF_keep e B _ (fun x hx => h x (List.mem_cons_of_mem _ hx))]
    simp
theorem stepF_mid (e w : Q) (C2 : List Q) (hw : dot4 e w ≠ 0) : ∀ (C1 pre : List Q), (∀ q ∈ C1, dot4 e q = 0) → stepF e pre (C1 ++ w :: C2) = (pre ++ C1 ++ C2).map (nrF e w)
  | [], pre, _ => by
    rw [List.nil_append, stepF, if_neg hw, List.append_nil]
  | q :: C1, pre, h => by
    rw [List.cons_append, stepF, if_pos (h q List.mem_cons_self), stepF_mid e w C2 hw C1 _ (fun x hx => h x (List.mem_cons_of_mem _ hx))]
    simp
theorem gc4_dvd (v : Q) (j : Nat) (hj : j < 4) : (gc4 v : Int) ∣ cmp j v := by
  have h1 : gc4 v ∣ Nat.gcd v.a.natAbs v.b.natAbs := Nat.gcd_dvd_left _ _
  have h2 : gc4 v ∣ Nat.gcd v.c.natAbs v.d.natAbs := Nat.gcd_dvd_right _ _
  have key : ∀ x : Int, gc4 v ∣ x.natAbs → (gc4 v : Int) ∣ x := fun x h => Int.natAbs_dvd_natAbs.1 (by simpa using h)
  rcases cases4 hj with rfl | rfl | rfl | rfl
  · exact key _ (Nat.dvd_trans h1 (Nat.gcd_dvd_left _ _))
  · exact key _ (Nat.dvd_trans h1 (Nat.gcd_dvd_right _ _))
  · exact key _ (Nat.dvd_trans h2 (Nat.gcd_dvd_left _ _))
  · exact key _ (Nat.dvd_trans h2 (Nat.gcd_dvd_right _ _))
theorem dvd_gc4 (v : Q) (d : Nat) (h : ∀ j, j < 4 → (d : Int) ∣ cmp j v) : d ∣ gc4 v := by
  have key : ∀ x : Int, (d : Int) ∣ x → d ∣ x.natAbs := fun x h => by simpa using Int.natAbs_dvd_natAbs.2 h
  exact Nat.dvd_gcd (Nat.dvd_gcd (key _ (h 0 (by decide))) (key _ (h 1 (by decide)))) (Nat.dvd_gcd (key _ (h 2 (by decide))) (key _ (h 3 (by decide))))
/-- a primitive quaternion is, up to the sign, what is left of its multiples -/
theorem prm_low {v y : Q} {k : Int} (hk : k ≠ 0) (hv : ∀ j, j < 4 → cmp j v = k * cmp j y) (hy : Prm y) : Pm y (lowF v) := by
  have h1 : k.natAbs ∣ gc4 v := dvd_gc4 v _ (fun j hj => by
    rw [hv j hj]
    exact Int.dvd_trans (Int.natAbs_dvd.2 (Int.dvd_refl k)) (Int.dvd_mul_right ..))
  obtain ⟨t, ht⟩ := h1
  have ht1 : t = 1 := by
    have h2 := hy (t : Int) (fun j hj => by
      have h3 := gc4_dvd v j hj
      rw [hv j hj, ht] at h3
      have h4 : k * (t : Int) ∣ k * cmp j y := by
        refine Int.dvd_trans ?_ h3
        have e : (k.natAbs : Int) = k ∨ (k.natAbs : Int) = -k := by omega
        rw [Int.natCast_mul]
        rcases e with e | e <;> rw [e]
        · exact Int.dvd_refl _
        · rw [Int.neg_mul]; exact Int.dvd_neg.2 (Int.dvd_refl _)
      exact Int.dvd_of_mul_dvd_mul_left hk h4)
    have h5 : (t : Int).natAbs ∣ (1 : Int).natAbs := Int.natAbs_dvd_natAbs.2 h2
    have h6 : t ∣ 1 := by simpa using h5
    exact Nat.dvd_one.1 h6
  rw [ht1, Nat.mul_one] at ht
  have hp : 0 < (k.natAbs : Int) := by omega
  have hc : ∀ j, j < 4 → cmp j (lowF v) = cmp j v / (k.natAbs : Int) := fun j hj => by
    unfold lowF
    rw [ht]
    rcases cases4 hj with rfl | rfl | rfl | rfl <;> rfl
  by_cases h0 : 0 ≤ k
  · refine ⟨1, .inl rfl, fun j hj => ?_⟩
    rw [hc j hj, hv j hj, show (k.natAbs : Int) = k by omega, Int.mul_ediv_cancel_left _ hk]; omega
  · refine ⟨-1, .inr rfl, fun j hj => ?_⟩
    have e : k * cmp j y = (k.natAbs : Int) * (-1 * cmp j y) := by rw [show (k.natAbs : Int) = -k by omega]; grind
    rw [hc j hj, hv j hj, e, Int.mul_ediv_cancel_left _ (by omega)]
theorem nrL_map {e w : Q} : ∀ {l l' : List Q}, NrL e w l l' → ∀ (hp : ∀ q ∈ l', Prm q) {C : List Q} {w' : Q}, PmL l C → Pm w w' → PmL l' (C.map (nrF e w'))
  | _, _, .nil, _, _, _, hC, _ => by cases hC; exact .nil
  | _, _, .cons (q := q) (q' := q') hq hl, hp, _, w', hC, hw => by
    cases hC with
    | cons h1 h2 =>
      rename_i c C
      refine .cons ?_ (nrL_map hl (fun x hx => hp x (List.mem_cons_of_mem _ hx)) h2 hw)
      obtain ⟨k, hk, hj⟩ := hq
      obtain ⟨s, hs, h3⟩ := hw
      obtain ⟨t, ht, h4⟩ := h1
      have hst : s * t = 1 ∨ s * t = -1 := by rcases hs with rfl | rfl <;> rcases ht with rfl | rfl <;> decide
      refine prm_low (k := s * t * k) (by rcases hst with h | h <;> rw [h] <;> omega) (fun j hj4 => ?_) (hp q' List.mem_cons_self)
      rw [nrv_cmp _ _ _ _ hj4, pm_dot e h3, pm_dot e h4, h3 j hj4, h4 j hj4, Int.mul_assoc (s * t), ← hj j hj4]
      grind
/-- one narrowing, and the same by the numbers alone -/
theorem PmL.next {e q : Q} {B1 B2 B' C : List Q} (h : PmL (B1 ++ q :: B2) C) (h0 : ∀ x ∈ B1, dot4 e x = 0) (hq : dot4 e q ≠ 0) (hn : NrL e q (B1 ++ B2) B') (hp : ∀ q ∈ B', Prm q) : PmL B' (stepF e [] C) := by
  obtain ⟨C1, w, C2, rfl, h1, h2, h3⟩ := PmL.mid B1 C h
  have hz : ∀ {B1 C1 : List Q}, PmL B1 C1 → (∀ x ∈ B1, dot4 e x = 0) → ∀ x ∈ C1, dot4 e x = 0 := by
    intro B1 C1 h
    induction h with
    | nil => intro _ x hx; simp at hx
    | cons h1 _ ih =>
      intro h0 x hx
      rcases List.mem_cons.1 hx with rfl | hx
      · obtain ⟨s, _, h⟩ := h1
        rw [pm_dot e h, h0 _ List.mem_cons_self]; omega
      · exact ih (fun y hy => h0 y (List.mem_cons_of_mem _ hy)) x hx
  have hw : dot4 e w ≠ 0 := by
    obtain ⟨s, hs, h⟩ := h2
    rw [pm_dot e h]
    rcases hs with rfl | rfl <;> omega
  rw [stepF_mid e w C2 hw C1 [] (hz h1 h0), List.nil_append]
  exact nrL_map hn hp (h1.app h3) h2
theorem PmL.keep {e : Q} {B C : List Q} (h : PmL B C) (h0 : ∀ x ∈ B, dot4 e x = 0) : PmL B (stepF e [] C) := by
  have hz : ∀ {B1 C1 : List Q}, PmL B1 C1 → (∀ x ∈ B1, dot4 e x = 0) → ∀ x ∈ C1, dot4 e x = 0 := by
    intro B1 C1 h
    induction h with
    | nil => intro _ x hx; simp at hx
    | cons h1 _ ih =>
      intro h0 x hx
      rcases List.mem_cons.1 hx with rfl | hx
      · obtain ⟨s, _, h⟩ := h1
        rw [pm_dot e h, h0 _ List.mem_cons_self]; omega
      · exact ih (fun y hy => h0 y (List.mem_cons_of_mem _ hy)) x hx
  rw [stepF_keep e C [] (hz h h0)]
  exact h
end Go.Proofs.YtkgihmhehkaocaaGreat

/- One narrowing on the way to the solutions.
Conditions: the bounds written at each theorem. -/
namespace Go.Proofs.YtkgihmhehkaocaaGreat
set_option linter.unusedVariables false
set_option linter.unusedSimpArgs false
set_option maxRecDepth 1000000
open Go.RowKit
open Um Tm

theorem bd_down {n : Nat} (h : n = 4 ∨ n = 3 ∨ n = 2) : 2 * (16 * bd n * bd n) ≤ bd (n - 1) ∧ bd (n - 1) ≤ 34359738368 := by
  rcases h with rfl | rfl | rfl
  · exact (show 2 * (16 * bd 4 * bd 4) ≤ bd 3 ∧ bd 3 ≤ 34359738368 by decide)
  · exact (show 2 * (16 * bd 3 * bd 3) ≤ bd 2 ∧ bd 2 ≤ 34359738368 by decide)
  · exact (show 2 * (16 * bd 2 * bd 2) ≤ bd 1 ∧ bd 1 ≤ 34359738368 by decide)
theorem mid_len (B1 B2 : List Q) (q : Q) : (B1 ++ q :: B2).length = B1.length + B2.length + 1 := by simp; omega
theorem mid_down (B1 B2 : List Q) (q : Q) (h4 : (B1 ++ q :: B2).length ≤ 4) (h : B1 ++ B2 ≠ []) : 2 * (16 * bd (B1 ++ q :: B2).length * bd (B1 ++ q :: B2).length) ≤ bd ((B1 ++ q :: B2).length - 1) ∧ bd ((B1 ++ q :: B2).length - 1) ≤ 34359738368 := by
  refine bd_down ?_
  have h1 : (B1 ++ B2).length ≠ 0 := fun h1 => h (List.length_eq_zero_iff.1 h1)
  have h2 : (B1 ++ B2).length = B1.length + B2.length := by simp
  have h3 := mid_len B1 B2 q
  omega
theorem mid_step (l : List Int) (n k : Nat) (hE : B4 (rowQ l k) 4) (B1 B2 : List Q) (q : Q) (hb : Bas (rowQ l) k (B1 ++ q :: B2)) (hd : dot4 (rowQ l k) q ≠ 0) (C : List Q) (hC : PmL (B1 ++ q :: B2) C) (hz : ∀ x ∈ B1, dot4 (rowQ l k) x = 0) (W : World) (bo off cap : Nat) (hm : LiesI W bo off (flq (B1 ++ q :: B2))) : Calls Tryz.prog 61 #[.slice (some ⟨bo, off, none⟩) (B1 ++ q :: B2).length cap, .int .i64 (B1.length : Int), .agg #[.int .i64 (rowQ l k).a, .int .i64 (rowQ l k).b, .int .i64 (rowQ l k).c, .int .i64 (rowQ l k).d]] W fun e' w' => (∃ (B' : List Q) (o : Option Addr) (c : Nat), e' = .returned (.slice o B'.length c) ∧ Bas (rowQ l) (k + 1) B' ∧ PmL B' (stepF (rowQ l k) [] C) ∧ LiesOI w' o (flq B')) ∧ Below W.heap.size W w' := by
  refine (narrowed_any B1 B2 q (rowQ l k) bo off cap (bd (B1 ++ q :: B2).length) (bd ((B1 ++ q :: B2).length - 1)) W hm hE hb.b (bd_rng _) (mid_down B1 B2 q hb.l) hb.i hd hb.l).mono ?_
  rintro e' w' ⟨⟨B', v, he, hn, hbb, ho⟩, hw⟩
  refine ⟨?_, hw⟩
  have hj : B1.length < (B1 ++ q :: B2).length := by rw [mid_len]; omega
  have hq : (B1 ++ q :: B2)[B1.length] = q := by simp
  have ht : (B1 ++ q :: B2).take B1.length = B1 := by simp
  have hr : (B1 ++ q :: B2).drop (B1.length + 1) = B2 := by simp
  have hB := hb.next (B' := B') hj (by rw [hq]; exact hd) (by rw [hq, ht, hr]; exact hn) hbb
  obtain ⟨o, c, rfl⟩ := owned_formG ho
  refine ⟨B', o, c, he, hB, hC.next hz hd hn (fun x hx => (hbb x hx).p), ?_⟩
  by_cases hp : 0 < B'.length
  · obtain ⟨g, cap', he', _, hli⟩ := owned_liesNG ho hp (flq_len B')
    cases he'
    exact .inr ⟨g, 0, rfl, hli⟩
  · exact .inl (by rw [List.length_eq_zero_iff.1 (by omega : B'.length = 0)]; rfl)
theorem narrow_step (l : List Int) (k : Nat) (hE : B4 (rowQ l k) 4) (j : Nat) (B : List Q) (q : Q) (hx : B[j]? = some q) (hb : Bas (rowQ l) k B) (hd : dot4 (rowQ l k) q ≠ 0) (C : List Q) (hC : PmL B C) (hz : ∀ i x, B[i]? = some x → i < j → dot4 (rowQ l k) x = 0) (W : World) (bo off cap : Nat) (hm : LiesI W bo off (flq B)) : Calls Tryz.prog 61 #[.slice (some ⟨bo, off, none⟩) B.length cap, .int .i64 (j : Int), .agg #[.int .i64 (rowQ l k).a, .int .i64 (rowQ l k).b, .int .i64 (rowQ l k).c, .int .i64 (rowQ l k).d]] W fun e' w' => (∃ (B' : List Q) (o : Option Addr) (c : Nat), e' = .returned (.slice o B'.length c) ∧ Bas (rowQ l) (k + 1) B' ∧ PmL B' (stepF (rowQ l k) [] C) ∧ LiesOI w' o (flq B')) ∧ Below W.heap.size W w' := by
  obtain ⟨hj, hq⟩ := List.getElem?_eq_some_iff.1 hx
  obtain ⟨B1, B2, rfl, rfl⟩ : ∃ B1 B2, B = B1 ++ q :: B2 ∧ j = B1.length := ⟨B.take j, B.drop (j + 1), by rw [← hq]; exact split_get B hj, by rw [List.length_take]; omega⟩
  refine mid_step l 0 k hE B1 B2 q hb hd C hC (fun x hx => ?_) W bo off cap hm
  obtain ⟨i, hi, rfl⟩ := List.getElem_of_mem hx
  exact hz i _ (by rw [List.getElem?_append_left hi, List.getElem?_eq_getElem hi]) hi
end Go.Proofs.YtkgihmhehkaocaaGreat

/- A basis of the solutions of equations, as the program makes it.
Conditions: the bounds written at each theorem. -/
namespace Go.Proofs.YtkgihmhehkaocaaGreat
set_option linter.unusedVariables false
set_option linter.unusedSimpArgs false
set_option maxRecDepth 1000000
open Go.RowKit
open Um Tm

theorem b4_great {q : Q} {n : Nat} (hq : B4 q (bd n)) : B4 q 34359738368 := by
  have bdr := bd_rng n
  exact ⟨by have := hq.a; omega, by have := hq.b; omega, by have := hq.c; omega, by have := hq.d; omega⟩
set_option maxHeartbeats 6400000 in
theorem solutions_any (l : List Int) (n cap : Nat) (ao : Option Addr) (w : World) (h : LiesOI w ao l) (hl : l.length = n * 4) (hn : n ≤ 1000) (hE : ∀ j, j < n → B4 (rowQ l j) 4) : Calls Tryz.prog 29 #[.slice ao n cap] w fun e w' => (∃ (B : List Q) (o : Option Addr) (c : Nat), e = .returned (.slice o B.length c) ∧ Bas (rowQ l) n B ∧ PmL B (solF (rowQ l) n) ∧ LiesOI w' o (flq B)) ∧ Below w.heap.size w w' := by
  have c1 := fun W : World => gqCo_any W
  have H := Lib.hid h
  have HLL := Lib.hid hl
  have HR := Lib.hid hE
  clear h hE hl
  go_enter Tryz.func29, Tryz.ntmps29
  go_wp2
  go_step3
  go_wp2_with ((with_reducible refine (c1 _).mono ?_); rintro e w1 ⟨⟨g, rfl, hg, -⟩, hw1⟩)
  have HB1 := Lib.hid hw1
  have HG1 : Hid (LiesOI w1 (some ⟨g, 0, none⟩) (flq [un 0, un 1, un 2, un 3])) := Lib.hid (.inr ⟨g, 0, rfl, hg⟩)
  clear c1 hg hw1
  go_step3
  go_wp2
  go_loopw [3, 5, 6, 7, 11, 17] (fun p _ _ _ q _ wr => ∃ (k : Nat) (B : List Q) (o : Option Addr) (c : Nat), k ≤ n ∧ q = .int .i64 k ∧ p = .slice o B.length c ∧ Hid (Bas (rowQ l) k B) ∧ Hid (PmL B (solF (rowQ l) k)) ∧ Hid (LiesOI wr o (flq B)) ∧ Hid (Below w.heap.size w wr)) (fun _ _ _ _ q _ _ => n - (intOf q).toNat)
  case atStart => exact ⟨0, [un 0, un 1, un 2, un 3], some ⟨g, 0, none⟩, 4, by omega, rfl, rfl, Lib.hid (Bas.start _), Lib.hid (PmL.refl _), HG1, HB1⟩
  case round =>
    obtain ⟨k, B, o, c, hk, rfl, rfl, HBs, HPm, HL, HW⟩ := hrel
    clear HG1 HB1
    obtain ⟨wo, hwo⟩ : ∃ x, x = wr := ⟨_, rfl⟩
    subst hwo
    by_cases hlt : k < n
    · obtain ⟨eb, eoff, rfl, hli0⟩ : ∃ b f, ao = some ⟨b, f, none⟩ ∧ LiesI w b f l := by
        rcases H.out with h | h
        · have := HLL.out; rw [h] at this; simp at this; omega
        · exact h
      obtain ⟨l0, l1, l2, l3⟩ := row_cells (hli0.later HW.out) HLL.out hlt
      clear hli0
      have ik : (k : Int) < (n : Int) := by omega
      have lb := World.block_lt_of_cell? _ _ l0
      have hR := HR.out k hlt
      have HC2 := Lib.hid (fun (j : Nat) (q : Q) (hx : B[j]? = some q) (hz : ∀ i x, B[i]? = some x → i < j → dot4 (rowQ l k) x = 0) (hd : dot4 (rowQ l k) q ≠ 0) => narrow_step l k hR j B q hx HBs.out hd _ HPm.out hz)
      generalize he : rowQ l k = e at *
      have HEE := Lib.hid he
      have HRR := Lib.hid hR
      clear he hR
      go_wp2
      have E0 := Lib.hid (IBox.new4G (w := wo) (T := 90) (x0 := e.a) (x1 := e.b) (x2 := e.c) (x3 := e.d))
      have L0 := Lib.hid (HL.out.later (ba1 (o := .cells #[.int .i64 e.a, .int .i64 e.b, .int .i64 e.c, .int .i64 e.d] 90)))
      have B0 := Lib.hid (HW.out.trans ((ba1 (o := .cells #[.int .i64 e.a, .int .i64 e.b, .int .i64 e.c, .int .i64 e.d] 90)).mono HW.out.size))
      clear l0 l1 l2 l3 lb HL HW
      generalize wo.alloc (.cells #[.int .i64 e.a, .int .i64 e.b, .int .i64 e.c, .int .i64 e.d] 90) = X at *
      generalize wo.heap.size = P at *
      go_loopw [3, 6, 7, 17] (fun p _ _ q wr => ∃ j : Nat, j ≤ B.length ∧ q = .int .i64 j ∧ p = .slice o B.length c ∧ Hid (∀ i q, B[i]? = some q → i < j → dot4 e q = 0) ∧ Hid (IBox wr P [e.a, e.b, e.c, e.d]) ∧ Hid (LiesOI wr o (flq B)) ∧ Hid (Below w.heap.size w wr)) (fun _ _ _ q _ => B.length - (intOf q).toNat)
      case atStart => exact ⟨0, by omega, rfl, rfl, Lib.hid (fun i q hi hj => by omega), E0, L0, B0⟩
      case round =>
        obtain ⟨j, hj, rfl, rfl, HZ, HE1, HL1, HB1⟩ := hrel
        clear E0 L0 B0
        have h4 := HBs.out.l
        by_cases hjl : j < B.length
        · obtain ⟨bo, off, rfl, hli⟩ : ∃ b f, o = some ⟨b, f, none⟩ ∧ LiesI wr b f (flq B) := by
            rcases HL1.out with h | h
            · have := flq_len B; rw [h] at this; simp at this; omega
            · exact h
          obtain ⟨q, hx⟩ : ∃ q, B[j]? = some q := ⟨_, List.getElem?_eq_getElem hjl⟩
          obtain ⟨l0, l1, l2, l3⟩ := liesq hli hx
          have HLI := Lib.hid hli
          have lb := World.block_lt_of_cell? _ _ l0
          have ij : (j : Int) < (B.length : Int) := by omega
          have hq := HBs.out.b q (List.mem_of_getElem? hx)
          have cA : ∀ W : World, Calls Tryz.prog 49 #[.agg #[.int .i64 e.a, .int .i64 e.b, .int .i64 e.c, .int .i64 e.d], .agg #[.int .i64 q.a, .int .i64 q.b, .int .i64 q.c, .int .i64 q.d]] W fun e' w' => e' = .returned (.int .i64 (dot4 e q)) ∧ Below W.heap.size W w' := fun W => gqAt_big e q W HRR.out (b4_great hq)
          have cN := Lib.hid (HC2.out j q hx HZ.out)
          have ea := HE1.out.at (i := 0) (x := e.a) rfl
          have eb := HE1.out.at (i := 1) (x := e.b) rfl
          have ec := HE1.out.at (i := 2) (x := e.c) rfl
          have ed := HE1.out.at (i := 3) (x := e.d) rfl
          have le := HE1.out.lt
          have HZ' : Hid (dot4 e q = 0 → ∀ i q, B[i]? = some q → i < j + 1 → dot4 e q = 0) := Lib.hid (fun h0 i q' hi hlt => by
            by_cases hij : i = j
            · subst hij; rw [hx] at hi; cases hi; exact h0
            · exact HZ.out i q' hi (by omega))
          clear hx hli hq
          by_cases hd : dot4 e q = 0
          · rw [hd] at cA
            go_wp2_with (fail)
            refine (cA _).mono ?_
            rintro e' w2 ⟨rfl, hw2⟩
            have b2 := bel1 hw2
            have E2 := Lib.hid (HE1.out.later b2)
            have L2 := Lib.hid (HL1.out.later b2)
            have B2 := Lib.hid (HB1.out.trans (b2.mono HB1.out.size))
            have Z2 := Lib.hid (HZ'.out hd)
            clear hw2 b2 HE1 HL1 HB1 HZ HZ' HLI ea eb ec ed le l0 l1 l2 l3 lb cA cN
            go_wp2
            exact ⟨⟨j + 1, by omega, by go_num, rfl, Z2, E2, L2, B2⟩, by simp [intOf]; omega⟩
          · have hd' : (dot4 e q != 0) = true := by simpa using hd
            go_wp2_with (fail)
            refine (cA _).mono ?_
            rintro e' w2 ⟨rfl, hw2⟩
            have b2 := bel1 hw2
            have E2 := Lib.hid (HE1.out.later b2)
            have L2 := Lib.hid (HLI.out.later b2)
            have B2 := Lib.hid (HB1.out.trans (b2.mono HB1.out.size))
            have dN := cN.out hd
            clear hw2 b2 HE1 HL1 HB1 HZ HZ' HLI ea eb ec ed le l0 l1 l2 l3 lb cA cN
            have ea := E2.out.at (i := 0) (x := e.a) rfl
            have eb := E2.out.at (i := 1) (x := e.b) rfl
            have ec := E2.out.at (i := 2) (x := e.c) rfl
            have ed := E2.out.at (i := 3) (x := e.d) rfl
            go_wp2_with (fail)
            refine (dN _ _ _ _ L2.out).mono ?_
            rintro e' w3 ⟨⟨B', o', c', rfl, hB', hP', hL'⟩, hw3⟩
            have B3 := Lib.hid (B2.out.trans (hw3.mono B2.out.size))
            have HB' := Lib.hid hB'
            have HP' : Hid (PmL B' (solF (rowQ l) (k + 1))) := Lib.hid (by rw [solF, HEE.out]; exact hP')
            have HL' := Lib.hid hL'
            clear hw3 B2 dN hB' hP' hL' E2 L2 ea eb ec ed
            go_wp2
            exact ⟨⟨k + 1, B', o', c', by omega, by go_num, rfl, HB', HP', HL', B3⟩, by simp [intOf]; omega⟩
        · obtain rfl : j = B.length := by omega
          have HK : Hid (Bas (rowQ l) (k + 1) B) := Lib.hid (HBs.out.keep (fun q hq => by
            obtain ⟨i, hi, rfl⟩ := List.getElem_of_mem hq
            rw [HEE.out]
            exact HZ.out i _ (List.getElem?_eq_getElem hi) hi))
          have HPK : Hid (PmL B (solF (rowQ l) (k + 1))) := Lib.hid (by
            rw [solF, HEE.out]
            exact HPm.out.keep (fun q hq => by
              obtain ⟨i, hi, rfl⟩ := List.getElem_of_mem hq
              exact HZ.out i _ (List.getElem?_eq_getElem hi) hi))
          go_wp2
          exact ⟨⟨k + 1, B, o, c, by omega, by go_num, rfl, HK, HPK, HL1, HB1⟩, by simp [intOf]; omega⟩
    · obtain rfl : k = n := by omega
      go_wp2
      rw [Exit.noGoto_ret]
      go_ret
      exact ⟨⟨B, o, c, rfl, HBs.out, HPm.out, HL.out⟩, HW.out⟩
end Go.Proofs.YtkgihmhehkaocaaGreat

/- Independent solutions are never more than those that span: mathematics, no Go.
Conditions: those written at each theorem. -/
namespace Go.Proofs.YtkgihmhehkaocaaGreat
set_option linter.unusedVariables false
set_option linter.unusedSimpArgs false
set_option maxRecDepth 1000000
open Um Tm

/-- a sum of multiples, over anything -/
def sg {α : Type} (f : α → Int) : List Int → List α → Int
  | c :: cs, q :: B => c * f q + sg f cs B
  | _, _ => 0
theorem sg_nil {α : Type} (f : α → Int) (cs : List Int) : sg f cs [] = 0 := by cases cs <;> rfl
theorem sg_mid {α : Type} (f : α → Int) (w : α) (B2 : List α) : ∀ (B1 : List α) (c1 : List Int) (c : Int) (c2 : List Int), c1.length = B1.length → sg f (c1 ++ c :: c2) (B1 ++ w :: B2) = sg f (c1 ++ c2) (B1 ++ B2) + c * f w := by
  intro B1
  induction B1 with
  | nil => intro c1 c c2 h; cases c1 with
    | nil => simp only [List.nil_append, sg]; omega
    | cons x l => simp at h
  | cons q B1 ih => intro c1 c c2 h; cases c1 with
    | nil => simp at h
    | cons x l =>
      have := ih l c c2 (by simpa using h)
      simp only [List.cons_append, sg, this]
      omega
theorem sg_map {α : Type} (f : α → Int) (k : Int) : ∀ (B : List α) (cs : List Int), sg f (cs.map (k * ·)) B = k * sg f cs B := by
  intro B
  induction B with
  | nil => intro cs; rw [sg_nil, sg_nil]; simp
  | cons q B ih => intro cs; cases cs with
    | nil => simp [sg]
    | cons c cs => simp only [List.map_cons, sg, ih]; grind
theorem sg_zero {α : Type} (f : α → Int) : ∀ (B : List α) (cs : List Int), (∀ q ∈ B, f q = 0) → sg f cs B = 0 := by
  intro B
  induction B with
  | nil => intro cs _; exact sg_nil f cs
  | cons q B ih => intro cs h; cases cs with
    | nil => rfl
    | cons c cs => simp only [sg, h q List.mem_cons_self, ih cs (fun x hx => h x (List.mem_cons_of_mem _ hx))]; simp
theorem sg_lin {α : Type} (f g h : α → Int) (j k : Int) : ∀ (B : List α) (cs : List Int), (∀ q ∈ B, h q = j * f q + k * g q) → sg h cs B = j * sg f cs B + k * sg g cs B := by
  intro B
  induction B with
  | nil => intro cs _; rw [sg_nil, sg_nil, sg_nil]; simp
  | cons q B ih => intro cs hh; cases cs with
    | nil => simp [sg]
    | cons c cs =>
      simp only [sg, hh q List.mem_cons_self, ih cs (fun x hx => hh x (List.mem_cons_of_mem _ hx))]
      grind
theorem sg_of {α β : Type} (f : β → Int) (r : α → β) : ∀ (B : List α) (cs : List Int), sg f cs (B.map r) = sg (fun b => f (r b)) cs B := by
  intro B
  induction B with
  | nil => intro cs; rw [List.map_nil, sg_nil, sg_nil]
  | cons q B ih => intro cs; cases cs with
    | nil => rfl
    | cons c cs => simp only [List.map_cons, sg, ih]
theorem sg_smf (f : Q → Int) : ∀ (B : List Q) (cs : List Int), smf f cs B = sg f cs B := by
  intro B
  induction B with
  | nil => intro cs; rw [smf_nil, sg_nil]
  | cons q B ih => intro cs; cases cs with
    | nil => rfl
    | cons c cs => simp only [smf, sg, ih]
/-- more rows than columns: some combination is 0 -/
theorem kern : ∀ (m : Nat) (R : List (List Int)), m < R.length → ∃ c : List Int, c.length = R.length ∧ (∃ x ∈ c, x ≠ 0) ∧ ∀ j, j < m → sg (fun r => r.getD j 0) c R = 0
  | 0, R, h => ⟨List.replicate R.length 1, by simp, ⟨1, List.mem_replicate.2 ⟨by omega, rfl⟩, by decide⟩, fun j hj => by omega⟩
  | m + 1, R, h => by
    by_cases ha : ∀ r ∈ R, r.getD m 0 = 0
    · obtain ⟨c, h1, h2, h3⟩ := kern m R (by omega)
      refine ⟨c, h1, h2, fun j hj => ?_⟩
      by_cases hjm : j = m
      · subst hjm; exact sg_zero _ R c ha
      · exact h3 j (by omega)
    · obtain ⟨p, hp, hp0⟩ : ∃ p ∈ R, p.getD m 0 ≠ 0 := Classical.byContradiction fun hn => ha fun r hr => Classical.byContradiction fun h0 => hn ⟨r, hr, h0⟩
      obtain ⟨R1, R2, rfl⟩ := List.append_of_mem hp
      have hl : (R1 ++ p :: R2).length = (R1 ++ R2).length + 1 := by simp; omega
      obtain ⟨c', h1, ⟨x, hx, hx0⟩, h3⟩ := kern m ((R1 ++ R2).map fun r => (List.range m).map fun j => p.getD m 0 * r.getD j 0 - r.getD m 0 * p.getD j 0) (by rw [List.length_map]; omega)
      rw [List.length_map] at h1
      have hc1 : (c'.take R1.length).length = R1.length := by simp at h1 ⊢; omega
      have hcc : c'.take R1.length ++ c'.drop R1.length = c' := List.take_append_drop _ _
      refine ⟨(c'.take R1.length).map (p.getD m 0 * ·) ++ (-(sg (fun r => r.getD m 0) c' (R1 ++ R2))) :: (c'.drop R1.length).map (p.getD m 0 * ·), by simp at h1 hc1 ⊢; omega, ⟨p.getD m 0 * x, ?_, fun h0 => ?_⟩, fun j hj => ?_⟩
      · rw [← hcc] at hx
        rcases List.mem_append.1 hx with hx | hx
        · exact List.mem_append_left _ (List.mem_map.2 ⟨x, hx, rfl⟩)
        · exact List.mem_append_right _ (List.mem_cons_of_mem _ (List.mem_map.2 ⟨x, hx, rfl⟩))
      · rcases Int.mul_eq_zero.1 h0 with h0 | h0
        · exact hp0 h0
        · exact hx0 h0
      · rw [sg_mid _ _ _ _ _ _ _ (by rw [List.length_map]; exact hc1), ← List.map_append, hcc, sg_map]
        by_cases hjm : j = m
        · subst hjm; grind
        · have h4 := h3 j (by omega)
          rw [sg_of, sg_lin (fun r => r.getD j 0) (fun r => r.getD m 0) _ (p.getD m 0) (-(p.getD j 0)) _ _ (fun r _ => by
            rw [List.getD_eq_getElem?_getD, List.getElem?_map, List.getElem?_range (by omega)]
            simp only [Option.map_some, Option.getD_some]
            grind)] at h4
          grind
/-- a sum with coefficients by their numbers -/
def sfn (f : Q → Int) : (Nat → Int) → List Q → Int
  | g, q :: B => g 0 * f q + sfn f (fun j => g (j + 1)) B
  | _, [] => 0
theorem sfn_smf (f : Q → Int) : ∀ (B : List Q) (cs : List Int), cs.length = B.length → smf f cs B = sfn f (fun j => cs.getD j 0) B := by
  intro B
  induction B with
  | nil => intro cs _; rw [smf_nil]; rfl
  | cons q B ih => intro cs h; cases cs with
    | nil => simp at h
    | cons c cs =>
      have := ih cs (by simpa using h)
      simp only [smf, sfn, this]
      simp
theorem sfn_lin (f : Q → Int) (k : Int) : ∀ (B : List Q) (g h u : Nat → Int), (∀ j, j < B.length → u j = k * g j + h j) → sfn f u B = k * sfn f g B + sfn f h B := by
  intro B
  induction B with
  | nil => intro g h u _; simp [sfn]
  | cons q B ih => intro g h u hu; 
                   have h1 := ih (fun j => g (j + 1)) (fun j => h (j + 1)) (fun j => u (j + 1)) (fun j hj => hu (j + 1) (by simp; omega))
                   have h2 := hu 0 (by simp)
                   simp only [sfn, h1, h2]
                   grind
theorem sfn_zero (f : Q → Int) : ∀ (B : List Q) (g : Nat → Int), (∀ j, j < B.length → g j = 0) → sfn f g B = 0 := by
  intro B
  induction B with
  | nil => intro g _; rfl
  | cons q B ih => intro g hg
                   have h1 := ih (fun j => g (j + 1)) (fun j hj => hg (j + 1) (by simp; omega))
                   have h2 := hg 0 (by simp)
                   simp only [sfn, h1, h2]
                   simp
theorem sum_cols (f : Q → Int) (B' : List Q) (r : Q → Int × List Int) : ∀ (B : List Q) (c : List Int), (∀ b ∈ B, (r b).2.length = B'.length ∧ (r b).1 * f b = smf f (r b).2 B') → sg (fun b => (r b).1 * f b) c B = sfn f (fun j => sg (fun b => (r b).2.getD j 0) c B) B' := by
  intro B
  induction B with
  | nil => intro c _; rw [sg_nil, sfn_zero]; intro j _; exact sg_nil _ _
  | cons b B ih => intro c h; cases c with
    | nil => exact (sfn_zero f B' _ (fun j _ => rfl)).symm
    | cons c cs =>
      have h1 := ih cs (fun x hx => h x (List.mem_cons_of_mem _ hx))
      obtain ⟨h2, h3⟩ := h b List.mem_cons_self
      rw [sfn_smf f B' _ h2] at h3
      simp only [sg, h1, h3]
      exact (sfn_lin f c B' _ _ _ (fun j _ => rfl)).symm
/-- independent solutions are never more than those that span -/
theorem Ind.le {P : Q → Prop} {B B' : List Q} (hI : Ind B) (hP : ∀ q ∈ B, P q) (hS : Spn P B') : B.length ≤ B'.length := by
  refine Classical.byContradiction fun hn => ?_
  have hex : ∀ b : Q, ∃ r : Int × List Int, P b → r.1 ≠ 0 ∧ r.2.length = B'.length ∧ ∀ k, k < 4 → r.1 * cmp k b = smf (cmp k) r.2 B' := fun b => by
    by_cases hb : P b
    · obtain ⟨m, cs, h1, h2, h3⟩ := hS b hb
      exact ⟨(m, cs), fun _ => ⟨h1, h2, h3⟩⟩
    · exact ⟨(0, []), fun h => absurd h hb⟩
  obtain ⟨r, hr⟩ : ∃ r : Q → Int × List Int, ∀ b, P b → (r b).1 ≠ 0 ∧ (r b).2.length = B'.length ∧ ∀ k, k < 4 → (r b).1 * cmp k b = smf (cmp k) (r b).2 B' := ⟨fun b => Classical.choose (hex b), fun b => Classical.choose_spec (hex b)⟩
  obtain ⟨c, h1, ⟨x, hx, hx0⟩, h3⟩ := kern B'.length (B.map fun b => (r b).2) (by rw [List.length_map]; omega)
  rw [List.length_map] at h1
  have h4 : ∀ j, j < B'.length → sg (fun b => (r b).2.getD j 0) c B = 0 := fun j hj => by
    have := h3 j hj
    rwa [sg_of] at this
  have h5 : ∀ k, k < 4 → sg (fun b => (r b).1 * cmp k b) c B = 0 := fun k hk => by
    rw [sum_cols (cmp k) B' r B c (fun b hb => ⟨(hr b (hP b hb)).2.1, (hr b (hP b hb)).2.2 k hk⟩)]
    exact sfn_zero _ _ _ h4
  -- the coefficients times the multiples
  have key : ∀ (B : List Q) (c : List Int), c.length = B.length → ∃ d : List Int, d.length = B.length ∧ (∀ k, smf (cmp k) d B = sg (fun b => (r b).1 * cmp k b) c B) ∧ ((∀ b ∈ B, (r b).1 ≠ 0) → (∀ y ∈ d, y = 0) → ∀ y ∈ c, y = 0) := by
    intro B
    induction B with
    | nil => intro c hc; exact ⟨[], rfl, fun k => by rw [smf_nil, sg_nil], fun _ _ y hy => by rw [List.length_eq_zero_iff.1 hc] at hy; simp at hy⟩
    | cons b B ih => intro c hc; cases c with
      | nil => simp at hc
      | cons c cs =>
        obtain ⟨d, e1, e2, e3⟩ := ih cs (by simpa using hc)
        refine ⟨(c * (r b).1) :: d, by simp [e1], fun k => ?_, fun hb hd y hy => ?_⟩
        · simp only [smf, sg, e2]; grind
        · rcases List.mem_cons.1 hy with rfl | hy
          · rcases Int.mul_eq_zero.1 (hd _ List.mem_cons_self) with h0 | h0
            · exact h0
            · exact absurd h0 (hb b List.mem_cons_self)
          · exact e3 (fun z hz => hb z (List.mem_cons_of_mem _ hz)) (fun z hz => hd z (List.mem_cons_of_mem _ hz)) y hy
  obtain ⟨d, e1, e2, e3⟩ := key B c h1
  exact hx0 (e3 (fun b hb => (hr b (hP b hb)).1) (hI d e1 (fun k hk => by rw [e2]; exact h5 k hk)) x hx)
end Go.Proofs.YtkgihmhehkaocaaGreat

/- The number of independent rows and that of independent solutions are four together; rows that are reduced by one another: mathematics, no Go.
Conditions: those written at each theorem. -/
namespace Go.Proofs.YtkgihmhehkaocaaGreat
set_option linter.unusedVariables false
set_option linter.unusedSimpArgs false
set_option maxRecDepth 1000000
open Um Tm

theorem smf_app (f : Q → Int) (C : List Q) (d : List Int) : ∀ (B : List Q) (c : List Int), c.length = B.length → smf f (c ++ d) (B ++ C) = smf f c B + smf f d C := by
  intro B
  induction B with
  | nil => intro c h; cases c with
    | nil => simp [smf_nil]
    | cons x l => simp at h
  | cons q B ih => intro c h; cases c with
    | nil => simp at h
    | cons x l =>
      have := ih l (by simpa using h)
      simp only [List.cons_append, smf, this]
      omega
def vecQ (q : Q) : List Int := [q.a, q.b, q.c, q.d]
theorem vecQ_at (q : Q) {k : Nat} (hk : k < 4) : (vecQ q).getD k 0 = cmp k q := by
  rcases cases4 hk with rfl | rfl | rfl | rfl <;> rfl
theorem sq0 {a b c d : Int} (h : a * a + b * b + c * c + d * d = 0) : a = 0 ∧ b = 0 ∧ c = 0 ∧ d = 0 := by
  have n : ∀ x : Int, 0 ≤ x * x := fun x => by
    rcases Int.le_total 0 x with h | h
    · exact Int.mul_nonneg h h
    · exact Int.mul_nonneg_of_nonpos_of_nonpos h h
  have z : ∀ x : Int, x * x = 0 → x = 0 := fun x h => by rcases Int.mul_eq_zero.1 h with h | h <;> exact h
  have h1 := n a
  have h2 := n b
  have h3 := n c
  have h4 := n d
  exact ⟨z a (by omega), z b (by omega), z c (by omega), z d (by omega)⟩
theorem dot_swap (x y : Q) : dot4 x y = dot4 y x := by unfold dot4; grind
/-- independent vectors, each of the ones at right angles to each of the others, are at most four -/
theorem dim_up {B R : List Q} (hB : Ind B) (hR : Ind R) (hz : ∀ b ∈ B, ∀ r ∈ R, dot4 r b = 0) : B.length + R.length ≤ 4 := by
  refine Classical.byContradiction fun hn => ?_
  obtain ⟨c, h1, ⟨x, hx, hx0⟩, h3⟩ := kern 4 ((B ++ R).map vecQ) (by simp; omega)
  have h1 : c.length = B.length + R.length := by simpa using h1
  have h3' : ∀ k, k < 4 → smf (cmp k) c (B ++ R) = 0 := fun k hk => by
    have := h3 k hk
    rw [sg_of, show (fun b : Q => (vecQ b).getD k 0) = cmp k from funext fun q => vecQ_at q hk, ← sg_smf] at this
    exact this
  have hc1 : (c.take B.length).length = B.length := by simp; omega
  have hc2 : (c.drop B.length).length = R.length := by simp; omega
  have hcc : c.take B.length ++ c.drop B.length = c := List.take_append_drop _ _
  generalize c.take B.length = c1 at *
  generalize c.drop B.length = c2 at *
  subst hcc
  have h4 : ∀ k, k < 4 → smf (cmp k) c1 B + smf (cmp k) c2 R = 0 := fun k hk => by
    have := h3' k hk
    rwa [smf_app _ _ _ _ _ hc1] at this
  have hV : ∀ r ∈ R, dot4 ⟨smf (cmp 0) c1 B, smf (cmp 1) c1 B, smf (cmp 2) c1 B, smf (cmp 3) c1 B, 0⟩ r = 0 := fun r hr => by
    have h5 := smf_dot r B c1
    rw [smf_zero _ _ _ (fun b hb => hz b hb r hr)] at h5
    unfold dot4
    dsimp only
    grind
  have h6 := smf_dot ⟨smf (cmp 0) c1 B, smf (cmp 1) c1 B, smf (cmp 2) c1 B, smf (cmp 3) c1 B, 0⟩ R c2
  rw [smf_zero _ _ _ hV] at h6
  dsimp only at h6
  have a0 := h4 0 (by omega)
  have a1 := h4 1 (by omega)
  have a2 := h4 2 (by omega)
  have a3 := h4 3 (by omega)
  rw [show smf (cmp 0) c2 R = -smf (cmp 0) c1 B by omega, show smf (cmp 1) c2 R = -smf (cmp 1) c1 B by omega, show smf (cmp 2) c2 R = -smf (cmp 2) c1 B by omega, show smf (cmp 3) c2 R = -smf (cmp 3) c1 B by omega] at h6
  obtain ⟨z0, z1, z2, z3⟩ := sq0 (a := smf (cmp 0) c1 B) (b := smf (cmp 1) c1 B) (c := smf (cmp 2) c1 B) (d := smf (cmp 3) c1 B) (by grind)
  rcases List.mem_append.1 hx with h | h
  · refine hx0 (hB c1 hc1 (fun k hk => ?_) x h)
    rcases cases4 hk with rfl | rfl | rfl | rfl <;> assumption
  · refine hx0 (hR c2 hc2 (fun k hk => ?_) x h)
    rcases cases4 hk with rfl | rfl | rfl | rfl <;> omega
/-- what spans the solutions of rows, and the rows, are at least four -/
theorem dim_low {B R : List Q} (hS : Spn (fun q => ∀ r ∈ R, dot4 r q = 0) B) (hz : ∀ b ∈ B, ∀ r ∈ R, dot4 r b = 0) : 4 ≤ B.length + R.length := by
  refine Classical.byContradiction fun hn => ?_
  obtain ⟨c, h1, ⟨x, hx, hx0⟩, h3⟩ := kern (B ++ R).length [(B ++ R).map (cmp 0), (B ++ R).map (cmp 1), (B ++ R).map (cmp 2), (B ++ R).map (cmp 3)] (by simp; omega)
  match c, h1 with
  | [c0, c1, c2, c3], _ =>
  have hd : ∀ q ∈ B ++ R, dot4 q ⟨c0, c1, c2, c3, 0⟩ = 0 := fun q hq => by
    obtain ⟨j, hj, rfl⟩ := List.mem_iff_getElem.1 hq
    have h4 := h3 j hj
    simp only [sg, List.getD_eq_getElem?_getD, List.getElem?_map, List.getElem?_eq_getElem hj, Option.map_some, Option.getD_some] at h4
    unfold dot4
    simp only [cmp] at h4
    simp at h4
    dsimp only
    grind
  obtain ⟨m, cs, m0, _, h5⟩ := hS ⟨c0, c1, c2, c3, 0⟩ (fun r hr => hd r (List.mem_append_right _ hr))
  have h6 := smf_dot ⟨c0, c1, c2, c3, 0⟩ B cs
  rw [smf_zero _ _ _ (fun b hb => (dot_swap _ _).trans (hd b (List.mem_append_left _ hb))), ← h5 0 (by omega), ← h5 1 (by omega), ← h5 2 (by omega), ← h5 3 (by omega)] at h6
  simp only [cmp] at h6
  simp at h6
  have h7 : m * (c0 * c0 + c1 * c1 + c2 * c2 + c3 * c3) = 0 := by grind
  rcases Int.mul_eq_zero.1 h7 with h | h
  · exact m0 h
  · obtain ⟨z0, z1, z2, z3⟩ := sq0 h
    simp at hx
    rcases hx with h | h | h | h <;> exact hx0 (h.trans (by assumption))
/-- the place of the first element that is not 0, or 4 -/
def fstq (r : Q) : Nat := if r.a ≠ 0 then 0 else if r.b ≠ 0 then 1 else if r.c ≠ 0 then 2 else if r.d ≠ 0 then 3 else 4
theorem fstq_ne {r : Q} (h : fstq r < 4) : cmp (fstq r) r ≠ 0 := by
  unfold fstq at *
  by_cases h0 : r.a ≠ 0
  · rw [if_pos h0] at *; exact h0
  rw [if_neg h0] at *
  by_cases h1 : r.b ≠ 0
  · rw [if_pos h1] at *; exact h1
  rw [if_neg h1] at *
  by_cases h2 : r.c ≠ 0
  · rw [if_pos h2] at *; exact h2
  rw [if_neg h2] at *
  by_cases h3 : r.d ≠ 0
  · rw [if_pos h3] at *; exact h3
  · rw [if_neg h3] at h; omega
theorem fstq_four {r : Q} (h : ¬ fstq r < 4) : r.a = 0 ∧ r.b = 0 ∧ r.c = 0 ∧ r.d = 0 := by
  unfold fstq at h
  by_cases h0 : r.a ≠ 0
  · rw [if_pos h0] at h; omega
  rw [if_neg h0] at h
  by_cases h1 : r.b ≠ 0
  · rw [if_pos h1] at h; omega
  rw [if_neg h1] at h
  by_cases h2 : r.c ≠ 0
  · rw [if_pos h2] at h; omega
  rw [if_neg h2] at h
  by_cases h3 : r.d ≠ 0
  · rw [if_pos h3] at h; omega
  · exact ⟨by omega, by omega, by omega, by omega⟩
/-- rows, each 0 where an earlier one has its first element -/
structure Ech (R : List Q) : Prop where
  n : ∀ r ∈ R, fstq r < 4
  p : R.Pairwise fun r r' => cmp (fstq r) r' = 0
theorem Ech.ind : ∀ {R : List Q}, Ech R → Ind R
  | [], _ => fun cs hl _ c hc => by rw [List.length_eq_zero_iff.1 hl] at hc; simp at hc
  | r :: R, h => fun cs hl hs => by
    cases cs with
    | nil => simp at hl
    | cons c cs =>
      obtain ⟨p1, p2⟩ := List.pairwise_cons.1 h.p
      have hr := h.n r List.mem_cons_self
      have h1 := hs (fstq r) hr
      simp only [smf] at h1
      rw [smf_zero _ _ _ (fun q hq => p1 q hq)] at h1
      have hc : c = 0 := by
        rcases Int.mul_eq_zero.1 (by omega : c * cmp (fstq r) r = 0) with h2 | h2
        · exact h2
        · exact absurd h2 (fstq_ne hr)
      have ih := (Ech.ind (R := R) ⟨fun q hq => h.n q (List.mem_cons_of_mem _ hq), p2⟩) cs (by simpa using hl) (fun k hk => by
        have := hs k hk
        simp only [smf, hc] at this
        omega)
      intro x hx
      rcases List.mem_cons.1 hx with rfl | hx
      · exact hc
      · exact ih x hx
/-- a row reduced by a row -/
def Rd (row r r' : Q) : Prop := ∃ g : Int, g ≠ 0 ∧ ∀ k, k < 4 → cmp k r * cmp (fstq row) row - cmp k row * cmp (fstq row) r = g * cmp k r'
inductive RdL : List Q → Q → Q → Prop
  | nil (r : Q) : RdL [] r r
  | cons {row r r1 r' : Q} {R : List Q} : Rd row r r1 → RdL R r1 r' → RdL (row :: R) r r'
theorem Rd.keep {row r r' : Q} {k : Nat} (hk : k < 4) (h : Rd row r r') (h0 : cmp k r = 0) (h1 : cmp k row = 0) : cmp k r' = 0 := by
  obtain ⟨g, g0, hg⟩ := h
  have := hg k hk
  rw [h0, h1, Int.zero_mul, Int.zero_mul] at this
  rcases Int.mul_eq_zero.1 (show g * cmp k r' = 0 by omega) with h | h
  · exact absurd h g0
  · exact h
theorem Rd.self {row r r' : Q} (hk : fstq row < 4) (h : Rd row r r') : cmp (fstq row) r' = 0 := by
  obtain ⟨g, g0, hg⟩ := h
  have := hg _ hk
  rw [Int.mul_comm, Int.sub_self] at this
  rcases Int.mul_eq_zero.1 this.symm with h | h
  · exact absurd h g0
  · exact h
theorem RdL.keep {R : List Q} {r r' : Q} {k : Nat} (hk : k < 4) (h : RdL R r r') (h0 : cmp k r = 0) (h1 : ∀ row ∈ R, cmp k row = 0) : cmp k r' = 0 := by
  induction h with
  | nil r => exact h0
  | cons h2 _ ih => exact ih (h2.keep hk h0 (h1 _ List.mem_cons_self)) (fun x hx => h1 x (List.mem_cons_of_mem _ hx))
theorem RdL.zero {R : List Q} {r r' : Q} (h : RdL R r r') (hE : Ech R) : ∀ row ∈ R, cmp (fstq row) r' = 0 := by
  induction h with
  | nil r => intro row hr; simp at hr
  | cons h2 h3 ih =>
    obtain ⟨p1, p2⟩ := List.pairwise_cons.1 hE.p
    intro x hx
    rcases List.mem_cons.1 hx with rfl | hx
    · exact h3.keep (hE.n _ List.mem_cons_self) (h2.self (hE.n _ List.mem_cons_self)) p1
    · exact ih ⟨fun q hq => hE.n q (List.mem_cons_of_mem _ hq), p2⟩ x hx
theorem Rd.dot {row r r' q : Q} (hk : fstq row < 4) (h : Rd row r r') (h0 : dot4 row q = 0) : dot4 r' q = 0 ↔ dot4 r q = 0 := by
  obtain ⟨g, g0, hg⟩ := h
  have a0 := hg 0 (by omega)
  have a1 := hg 1 (by omega)
  have a2 := hg 2 (by omega)
  have a3 := hg 3 (by omega)
  have hp := fstq_ne hk
  generalize cmp (fstq row) row = a at *
  generalize cmp (fstq row) r = b at *
  have e : g * dot4 r' q = a * dot4 r q - b * dot4 row q := by
    unfold dot4
    simp only [cmp] at a0 a1 a2 a3
    simp at a0 a1 a2 a3
    grind
  rw [h0] at e
  constructor
  · intro h
    rw [h] at e
    rcases Int.mul_eq_zero.1 (show a * dot4 r q = 0 by omega) with h | h
    · exact absurd h hp
    · exact h
  · intro h
    rw [h] at e
    rcases Int.mul_eq_zero.1 (show g * dot4 r' q = 0 by omega) with h | h
    · exact absurd h g0
    · exact h
theorem RdL.dot {R : List Q} {r r' q : Q} (h : RdL R r r') (hE : ∀ row ∈ R, fstq row < 4) (h0 : ∀ row ∈ R, dot4 row q = 0) : dot4 r' q = 0 ↔ dot4 r q = 0 := by
  induction h with
  | nil r => exact Iff.rfl
  | cons h2 _ ih => exact (ih (fun x hx => hE x (List.mem_cons_of_mem _ hx)) (fun x hx => h0 x (List.mem_cons_of_mem _ hx))).trans (h2.dot (hE _ List.mem_cons_self) (h0 _ List.mem_cons_self))
/-- rows that have the solutions of the first n equations -/
structure Rws (E : Nat → Q) (n : Nat) (R : List Q) : Prop where
  e : Ech R
  s : ∀ q, (∀ r ∈ R, dot4 r q = 0) ↔ ∀ j, j < n → dot4 (E j) q = 0
theorem Rws.start (E : Nat → Q) : Rws E 0 [] := ⟨⟨fun r hr => by simp at hr, List.Pairwise.nil⟩, fun q => ⟨fun _ j hj => by omega, fun _ r hr => by simp at hr⟩⟩
theorem Rws.keep {E : Nat → Q} {n : Nat} {R : List Q} {r : Q} (h : Rws E n R) (hr : RdL R (E n) r) (h4 : ¬ fstq r < 4) : Rws E (n + 1) R :=
  ⟨h.e, fun q => ⟨fun hq j hj => by
    by_cases hjn : j = n
    · subst hjn
      refine (hr.dot h.e.n hq).1 ?_
      obtain ⟨z0, z1, z2, z3⟩ := fstq_four h4
      unfold dot4
      rw [z0, z1, z2, z3]
      simp
    · exact (h.s q).1 hq j (by omega), fun hq => (h.s q).2 fun j hj => hq j (by omega)⟩⟩
theorem Rws.add {E : Nat → Q} {n : Nat} {R : List Q} {r : Q} (h : Rws E n R) (hr : RdL R (E n) r) (h4 : fstq r < 4) : Rws E (n + 1) (R ++ [r]) :=
  ⟨⟨fun x hx => by
    rcases List.mem_append.1 hx with hx | hx
    · exact h.e.n x hx
    · simp at hx; subst hx; exact h4, List.pairwise_append.2 ⟨h.e.p, List.pairwise_singleton _ _, fun a ha b hb => by
      simp at hb; subst hb; exact hr.zero h.e a ha⟩⟩, fun q => ⟨fun hq j hj => by
    have hR : ∀ x ∈ R, dot4 x q = 0 := fun x hx => hq x (List.mem_append_left _ hx)
    by_cases hjn : j = n
    · subst hjn
      exact (hr.dot h.e.n hR).1 (hq r (List.mem_append_right _ List.mem_cons_self))
    · exact (h.s q).1 hR j (by omega), fun hq x hx => by
    have hR := (h.s q).2 fun j hj => hq j (by omega)
    rcases List.mem_append.1 hx with hx | hx
    · exact hR x hx
    · simp at hx; subst hx; exact (hr.dot h.e.n hR).2 (hq n (by omega))⟩⟩
/-- the document's number of independent solutions is the program's -/
theorem Rws.dim {E : Nat → Q} {n : Nat} {R B : List Q} (h : Rws E n R) (hI : Ind B) (hz : ∀ j, j < n → ∀ q ∈ B, dot4 (E j) q = 0) (hS : Spn (fun q => ∀ j, j < n → dot4 (E j) q = 0) B) : (B.length : Int) = 4 - (R.length : Int) := by
  have hz' : ∀ b ∈ B, ∀ r ∈ R, dot4 r b = 0 := fun b hb => (h.s b).2 fun j hj => hz j hj b hb
  have h1 := dim_up hI h.e.ind hz'
  have h2 := dim_low (B := B) (R := R) (fun q hq => hS q ((h.s q).1 hq)) hz'
  omega
end Go.Proofs.YtkgihmhehkaocaaGreat

/- Certificates, equivalence and freedom, as the program finds them.
Conditions: those written at each theorem. -/
namespace Go.Proofs.YtkgihmhehkaocaaGreat
set_option linter.unusedVariables false
set_option linter.unusedSimpArgs false
set_option maxRecDepth 1000000
open Go.RowKit
open Um Tm

/-- the rows of the equations between loops -/
def rwE (X Y : List Q) : Nat → Q := rowQ (eqL X Y X.length)
/-- a basis of the solutions -/
def BasE (X Y : List Q) (B : List Q) : Prop := Bas (rwE X Y) (X.length * 4) B ∧ PmL B (solF (rwE X Y) (X.length * 4))
theorem bw_ok (a b c : Int) (bl off bl' off' cap cap' N : Nat) (L M : List Q) (ms ns : List Int) (w : World) (h : Lies w bl off L) (h' : Lies w bl' off' M) (hF : fldR a b c L 0) (hF' : fldR a b c M 0) (hS : smR L ms true) (hS' : smR M ns true) (hN : (N : Int) = a * b * c) : Calls Tryz.prog 28 #[.agg #[.int .i64 a, .int .i64 b, .int .i64 c, .slice (some ⟨bl, off, none⟩) L.length cap], .agg #[.int .i64 a, .int .i64 b, .int .i64 c, .slice (some ⟨bl', off', none⟩) M.length cap']] w fun e w' => (∃ (ao : Option Addr) (k : Nat), e = .returned (.tuple #[.slice ao ((lpL a b c N L).length * 4) k, .int .i64 0]) ∧ LiesOI w' ao (eqL (lpL a b c N L) (lpL a b c N M) (lpL a b c N L).length)) ∧ Below w.heap.size w w' := by
  refine (gaBw_ok a b c bl off bl' off' cap cap' N L M ms ns w h h' hF hF' hS hS' hN).mono ?_
  rintro e w' ⟨⟨B, v, rfl, ho⟩, hw⟩
  refine ⟨?_, hw⟩
  obtain ⟨ao, k, rfl⟩ := owned_formG ho
  refine ⟨ao, k, rfl, ?_⟩
  by_cases hp : 0 < (lpL a b c N L).length * 4
  · obtain ⟨g, cap, he, _, hl⟩ := owned_liesNG ho hp (by rw [eqL_len]; omega)
    cases he
    exact .inr ⟨g, 0, rfl, hl⟩
  · refine .inl (List.length_eq_zero_iff.1 ?_)
    rw [eqL_len]; omega
theorem sol_of_rows {X Y : List Q} (hX : AllS X) (hY : AllS Y) (hl : Y.length = X.length) (ao : Option Addr) (k : Nat) (W : World) (h : LiesOI W ao (eqL X Y X.length)) (hlen : X.length ≤ 200) : Calls Tryz.prog 29 #[.slice ao (X.length * 4) k] W fun e w' => (∃ (B : List Q) (o : Option Addr) (c : Nat), e = .returned (.slice o B.length c) ∧ BasE X Y B ∧ LiesOI w' o (flq B)) ∧ Below W.heap.size W w' :=
  (solutions_any (eqL X Y X.length) (X.length * 4) k ao W h (by rw [eqL_len]; omega) (by omega) (fun j hj => row_bnd hX hY hl hj)).mono fun e w' ⟨⟨B, o, c, e1, e2, e3, e4⟩, hw⟩ => ⟨⟨B, o, c, e1, ⟨e2, e3⟩, e4⟩, hw⟩
theorem BasE.nil {X Y : List Q} {q : Q} (hX : AllS X) (hY : AllS Y) (hl : Y.length = X.length) (h : BasE X Y []) (hc : carP X Y q) : Z4 q := by
  obtain ⟨m, cs, hm, _, hs⟩ := h.1.s q (fun j hj => (car_rows hX hY hl).1 hc j hj)
  have z : ∀ k, k < 4 → cmp k q = 0 := fun k hk => by
    have := hs k hk
    rw [smf_nil] at this
    rcases Int.mul_eq_zero.1 this with h0 | h0
    · exact absurd h0 hm
    · exact h0
  exact ⟨z 0 (by decide), z 1 (by decide), z 2 (by decide), z 3 (by decide)⟩
theorem BasE.car {X Y B : List Q} {q : Q} (hX : AllS X) (hY : AllS Y) (hl : Y.length = X.length) (h : BasE X Y B) (hq : q ∈ B) : carP X Y q := (car_rows hX hY hl).2 fun j hj => h.1.z j hj q hq
theorem lp_good {a b c : Int} {N : Nat} {L : List Q} (hF : Fl a b c L) (hS : AllS L) (hN : (N : Int) = a * b * c) : AllS (lpL a b c N L) ∧ (lpL a b c N L).length ≤ 48 := by
  have hp16 := hF.z.p
  have hn := hF.n
  exact ⟨lpK_all _ (fxL_all hF hS hN) _ (by rw [fxL_len]; exact Nat.le_refl _), Nat.le_trans (lpK_len _ _ _) (by omega)⟩
theorem lp_same {a b c : Int} {N : Nat} {L M : List Q} (hl : L.length = M.length) : (lpL a b c N M).length = (lpL a b c N L).length := by
  unfold lpL; rw [hl]; exact lpK_len_eq _ _ _ _
/-! ### Freedom -/
set_option maxHeartbeats 1600000 in
theorem free_err (a b c r : Int) (ao : Option Addr) (cap : Nat) (L : List Q) (w : World) (h : LiesO w ao L) (h0 : r ≠ 0) (cB : ∀ W : World, LiesO W ao L → LiesO W ao L → Calls Tryz.prog 28 #[.agg #[.int .i64 a, .int .i64 b, .int .i64 c, .slice ao L.length cap], .agg #[.int .i64 a, .int .i64 b, .int .i64 c, .slice ao L.length cap]] W fun e w' => e = .returned (.tuple #[.slice none 0 0, .int .i64 r]) ∧ Below W.heap.size W w') : Calls Tryz.prog 12 #[.agg #[.int .i64 a, .int .i64 b, .int .i64 c, .slice ao L.length cap]] w fun e w' => e = .returned (.tuple #[.int .i64 0, .int .i64 r]) ∧ Below w.heap.size w w' := by
  have H := Lib.hid h
  have t0 : (r != 0) = true := by simpa using h0
  clear h h0
  go_enter Tryz.func12, Tryz.ntmps12
  go_wp2_with (fail)
  refine (cB _ (H.out.later ba1) (H.out.later ba1)).mono ?_
  rintro e w1 ⟨rfl, hw1⟩
  go_wp2
  go_ret2
  exact ⟨rfl, bel1 hw1⟩
set_option maxHeartbeats 1600000 in
theorem free_ok (a b c : Int) (ao : Option Addr) (cap : Nat) (L X : List Q) (w : World) (h : LiesO w ao L) (hX : AllS X) (hlen : X.length ≤ 200) (cB : ∀ W : World, LiesO W ao L → LiesO W ao L → Calls Tryz.prog 28 #[.agg #[.int .i64 a, .int .i64 b, .int .i64 c, .slice ao L.length cap], .agg #[.int .i64 a, .int .i64 b, .int .i64 c, .slice ao L.length cap]] W fun e w' => (∃ (ao : Option Addr) (k : Nat), e = .returned (.tuple #[.slice ao (X.length * 4) k, .int .i64 0]) ∧ LiesOI w' ao (eqL X X X.length)) ∧ Below W.heap.size W w') : Calls Tryz.prog 12 #[.agg #[.int .i64 a, .int .i64 b, .int .i64 c, .slice ao L.length cap]] w fun e w' => (∃ B, BasE X X B ∧ e = .returned (.tuple #[.int .i64 (B.length : Int), .int .i64 0])) ∧ Below w.heap.size w w' := by
  have H := Lib.hid h
  have c2 := fun (W : World) (o : Option Addr) (k : Nat) (h : LiesOI W o (eqL X X X.length)) => sol_of_rows hX hX rfl o k W h hlen
  clear h hX hlen
  generalize hn : X.length * 4 = n at *
  clear hn
  go_enter Tryz.func12, Tryz.ntmps12
  go_wp2_with (fail)
  refine (cB _ (H.out.later ba1) (H.out.later ba1)).mono ?_
  rintro e w1 ⟨⟨o, k, rfl, hl⟩, hw1⟩
  have HL := Lib.hid hl
  have B1 := Lib.hid (bel1 hw1)
  clear hl hw1 cB
  go_wp2_with (fail)
  refine (c2 _ _ _ HL.out).mono ?_
  rintro e w2 ⟨⟨B, o2, k2, rfl, hB, -⟩, hw2⟩
  have HBs := Lib.hid hB
  have B2 := Lib.hid (B1.out.trans (hw2.mono B1.out.size))
  clear hB hw2 c2
  go_wp2
  go_ret2
  exact ⟨⟨B, HBs.out, rfl⟩, B2.out⟩
/-! ### Certificate and Equivalent -/
/-- no certificate and the error r are answered -/
def NoCe (r : Int) : Value := .tuple #[.agg #[.int .i64 0, .int .i64 0, .int .i64 0, .int .i64 0], .bool false, .int .i64 r]
set_option maxHeartbeats 1600000 in
theorem cert_err (a b c a' b' c' r : Int) (ao bo : Option Addr) (cap cap' : Nat) (L M : List Q) (w : World) (h : LiesO w ao L) (h' : LiesO w bo M) (h0 : r ≠ 0) (cB : ∀ W : World, LiesO W ao L → LiesO W bo M → Calls Tryz.prog 28 #[.agg #[.int .i64 a, .int .i64 b, .int .i64 c, .slice ao L.length cap], .agg #[.int .i64 a', .int .i64 b', .int .i64 c', .slice bo M.length cap']] W fun e w' => e = .returned (.tuple #[.slice none 0 0, .int .i64 r]) ∧ Below W.heap.size W w') : Calls Tryz.prog 10 #[.agg #[.int .i64 a, .int .i64 b, .int .i64 c, .slice ao L.length cap], .agg #[.int .i64 a', .int .i64 b', .int .i64 c', .slice bo M.length cap']] w fun e w' => e = .returned (NoCe r) ∧ Below w.heap.size w w' := by
  have H := Lib.hid h
  have H' := Lib.hid h'
  have t0 : (r != 0) = true := by simpa using h0
  clear h h' h0
  have Q0 := Lib.hid (C4.n3c (w := w) (v0 := .int .i64 0) (v1 := .int .i64 0) (v2 := .int .i64 0) (v3 := .int .i64 0) (T := 31) (o := .cells #[.int .i64 a, .int .i64 b, .int .i64 c, .slice ao L.length cap] 25) (p := .cells #[.int .i64 a', .int .i64 b', .int .i64 c', .slice bo M.length cap'] 25))
  go_enter Tryz.func10, Tryz.ntmps10
  go_wp2_with (fail)
  refine (cB _ (H.out.later ba3) (H'.out.later ba3)).mono ?_
  rintro e w1 ⟨rfl, hw1⟩
  have Q1 := Lib.hid (Q0.out.later hw1)
  have B1 := bel3 hw1
  clear hw1 Q0
  obtain ⟨q0, q1, q2, q3, qf, ql⟩ := Q1.out
  go_wp2
  refine bodyPost_ret (v := NoCe r) ?_ rfl ⟨rfl, ?_⟩
  · simp [NoCe, results, Tryz.results10, go_sem, q0, q1, q2, q3]
  · repeat (first | (with_reducible exact Below.refl _ _) | (with_reducible refine Below.setCell ?_ ?_ _) | (with_reducible refine Below.drew ?_) | (with_reducible refine Below.alloc ?_ ?_ _) | (with_reducible refine Below.trans ?_ (Below.mono B1 ?_)) | (with_reducible exact B1.size) | omega | (simp <;> omega) | (simp <;> (have s := B1.size; omega)) | (have s0 := B1.size; (try simp at s0); (try simp); omega))
set_option maxHeartbeats 3200000 in
theorem cert_ok (a b c a' b' c' : Int) (ao bo : Option Addr) (cap cap' : Nat) (L M X Y : List Q) (w : World) (h : LiesO w ao L) (h' : LiesO w bo M) (hX : AllS X) (hY : AllS Y) (hl : Y.length = X.length) (hlen : X.length ≤ 200) (cB : ∀ W : World, LiesO W ao L → LiesO W bo M → Calls Tryz.prog 28 #[.agg #[.int .i64 a, .int .i64 b, .int .i64 c, .slice ao L.length cap], .agg #[.int .i64 a', .int .i64 b', .int .i64 c', .slice bo M.length cap']] W fun e w' => (∃ (ao : Option Addr) (k : Nat), e = .returned (.tuple #[.slice ao (X.length * 4) k, .int .i64 0]) ∧ LiesOI w' ao (eqL X Y X.length)) ∧ Below W.heap.size W w') : Calls Tryz.prog 10 #[.agg #[.int .i64 a, .int .i64 b, .int .i64 c, .slice ao L.length cap], .agg #[.int .i64 a', .int .i64 b', .int .i64 c', .slice bo M.length cap']] w fun e w' => (∃ B, BasE X Y B ∧ ((B = [] ∧ e = .returned (NoCe 0)) ∨ ∃ q B', B = q :: B' ∧ e = .returned (.tuple #[.agg #[.int .i64 q.a, .int .i64 q.b, .int .i64 q.c, .int .i64 q.d], .bool true, .int .i64 0]))) ∧ Below w.heap.size w w' := by
  have H := Lib.hid h
  have H' := Lib.hid h'
  have c2 := fun (W : World) (o : Option Addr) (k : Nat) (h : LiesOI W o (eqL X Y X.length)) => sol_of_rows hX hY hl o k W h hlen
  clear h h' hX hY hl hlen
  generalize hn : X.length * 4 = n at *
  clear hn
  have Q0 := Lib.hid (C4.n3c (w := w) (v0 := .int .i64 0) (v1 := .int .i64 0) (v2 := .int .i64 0) (v3 := .int .i64 0) (T := 31) (o := .cells #[.int .i64 a, .int .i64 b, .int .i64 c, .slice ao L.length cap] 25) (p := .cells #[.int .i64 a', .int .i64 b', .int .i64 c', .slice bo M.length cap'] 25))
  go_enter Tryz.func10, Tryz.ntmps10
  go_wp2_with (fail)
  refine (cB _ (H.out.later ba3) (H'.out.later ba3)).mono ?_
  rintro e w1 ⟨⟨o, k, rfl, hli⟩, hw1⟩
  have Q1 := Lib.hid (Q0.out.later hw1)
  have B1 := Lib.hid (bel3 hw1)
  have HL := Lib.hid hli
  clear hw1 Q0 cB hli
  go_wp2_with (fail)
  refine (c2 _ _ _ HL.out).mono ?_
  rintro e w2 ⟨⟨B, o2, k2, rfl, hB, hq⟩, hw2⟩
  have Q2 := Lib.hid (Q1.out.later hw2)
  have B2 := Lib.hid (B1.out.trans (hw2.mono B1.out.size))
  have HBs := Lib.hid hB
  have HQ := Lib.hid hq
  clear hw2 Q1 B1 HL hB hq
  obtain ⟨q0, q1, q2, q3, qf, ql⟩ := Q2.out
  cases B with
  | nil =>
    go_wp2
    refine bodyPost_ret (v := NoCe 0) ?_ rfl ⟨⟨[], HBs.out, .inl ⟨rfl, rfl⟩⟩, ?_⟩
    · simp [NoCe, results, Tryz.results10, go_sem, q0, q1, q2, q3]
    · have B3 := B2.out
      repeat (first | (with_reducible exact Below.refl _ _) | (with_reducible refine Below.setCell ?_ ?_ _) | (with_reducible refine Below.drew ?_) | (with_reducible refine Below.alloc ?_ ?_ _) | (with_reducible refine Below.trans ?_ (Below.mono B3 ?_)) | (with_reducible exact B3.size) | omega | (simp <;> omega) | (simp <;> (have s := B3.size; omega)) | (have s0 := B3.size; (try simp at s0); (try simp); omega))
  | cons q B' =>
    obtain ⟨b, f, rfl, hli⟩ : ∃ b f, o2 = some ⟨b, f, none⟩ ∧ LiesI w2 b f (flq (q :: B')) := by
      rcases HQ.out with h | h
      · have := flq_len (q :: B'); rw [h] at this; simp at this
      · exact h
    obtain ⟨l0, l1, l2, l3⟩ := liesq (i := 0) hli rfl
    have hlb := World.block_lt_of_cell? _ _ l0
    have ib : (0 : Int) < ((q :: B').length : Int) := by simp only [List.length_cons]; omega
    have i0 : ¬ (((q :: B').length : Int) = 0) := by omega
    have i1 : ((((q :: B').length : Int)) == 0) = false := by simpa using i0
    rw [Nat.zero_mul, Nat.add_zero] at l0 l1 l2 l3
    have HLn := Lib.hid hli
    clear hli HQ
    generalize hqb : q :: B' = Bq at *
    have HE := Lib.hid hqb
    clear hqb
    go_wp2
    refine bodyPost_ret (v := .tuple #[.agg #[.int .i64 q.a, .int .i64 q.b, .int .i64 q.c, .int .i64 q.d], .bool true, .int .i64 0]) ?_ rfl ⟨⟨Bq, HBs.out, .inr ⟨q, B', HE.out.symm, rfl⟩⟩, ?_⟩
    · simp [results, Tryz.results10, go_sem, q0, q1, q2, q3, ql]
    · have B3 := B2.out
      repeat (first | (with_reducible exact Below.refl _ _) | (with_reducible refine Below.setCell ?_ ?_ _) | (with_reducible refine Below.drew ?_) | (with_reducible refine Below.alloc ?_ ?_ _) | (with_reducible refine Below.trans ?_ (Below.mono B3 ?_)) | (with_reducible exact B3.size) | omega | (simp <;> omega) | (simp <;> (have s := B3.size; omega)) | (have s0 := B3.size; (try simp at s0); (try simp); omega))
set_option maxHeartbeats 1600000 in
theorem equiv_err (a b c a' b' c' r : Int) (ao bo : Option Addr) (cap cap' : Nat) (L M : List Q) (w : World) (h : LiesO w ao L) (h' : LiesO w bo M) (cC : ∀ W : World, LiesO W ao L → LiesO W bo M → Calls Tryz.prog 10 #[.agg #[.int .i64 a, .int .i64 b, .int .i64 c, .slice ao L.length cap], .agg #[.int .i64 a', .int .i64 b', .int .i64 c', .slice bo M.length cap']] W fun e w' => e = .returned (NoCe r) ∧ Below W.heap.size W w') : Calls Tryz.prog 8 #[.agg #[.int .i64 a, .int .i64 b, .int .i64 c, .slice ao L.length cap], .agg #[.int .i64 a', .int .i64 b', .int .i64 c', .slice bo M.length cap']] w fun e w' => e = .returned (.tuple #[.bool false, .int .i64 r]) ∧ Below w.heap.size w w' := by
  have H := Lib.hid h
  have H' := Lib.hid h'
  clear h h'
  unfold NoCe at cC
  go_enter Tryz.func8, Tryz.ntmps8
  go_wp2_with (fail)
  refine (cC _ (H.out.later ba2) (H'.out.later ba2)).mono ?_
  rintro e w1 ⟨rfl, hw1⟩
  have B1 := bel2 hw1
  go_wp2
  go_ret2
  exact ⟨rfl, by repeat (first | (with_reducible exact Below.refl _ _) | (with_reducible refine Below.setCell ?_ ?_ _) | (with_reducible refine Below.drew ?_) | (with_reducible refine Below.alloc ?_ ?_ _) | (with_reducible refine Below.trans ?_ (Below.mono B1 ?_)) | (with_reducible exact B1.size) | omega | (simp <;> omega) | (simp <;> (have s := B1.size; omega)) | (have s0 := B1.size; (try simp at s0); (try simp); omega))⟩
set_option maxHeartbeats 1600000 in
theorem equiv_ok (a b c a' b' c' : Int) (ao bo : Option Addr) (cap cap' : Nat) (L M X Y : List Q) (w : World) (h : LiesO w ao L) (h' : LiesO w bo M) (cC : ∀ W : World, LiesO W ao L → LiesO W bo M → Calls Tryz.prog 10 #[.agg #[.int .i64 a, .int .i64 b, .int .i64 c, .slice ao L.length cap], .agg #[.int .i64 a', .int .i64 b', .int .i64 c', .slice bo M.length cap']] W fun e w' => (∃ B, BasE X Y B ∧ ((B = [] ∧ e = .returned (NoCe 0)) ∨ ∃ q B', B = q :: B' ∧ e = .returned (.tuple #[.agg #[.int .i64 q.a, .int .i64 q.b, .int .i64 q.c, .int .i64 q.d], .bool true, .int .i64 0]))) ∧ Below W.heap.size W w') : Calls Tryz.prog 8 #[.agg #[.int .i64 a, .int .i64 b, .int .i64 c, .slice ao L.length cap], .agg #[.int .i64 a', .int .i64 b', .int .i64 c', .slice bo M.length cap']] w fun e w' => (∃ B, BasE X Y B ∧ ((B = [] ∧ e = .returned (.tuple #[.bool false, .int .i64 0])) ∨ (B ≠ [] ∧ e = .returned (.tuple #[.bool true, .int .i64 0])))) ∧ Below w.heap.size w w' := by
  have H := Lib.hid h
  have H' := Lib.hid h'
  clear h h'
  unfold NoCe at cC
  go_enter Tryz.func8, Tryz.ntmps8
  go_wp2_with (fail)
  refine (cC _ (H.out.later ba2) (H'.out.later ba2)).mono ?_
  rintro e w1 ⟨⟨B, hB, ⟨h0, rfl⟩ | ⟨q, B', h0, rfl⟩⟩, hw1⟩
  · have B1 := bel2 hw1
    have HB := Lib.hid hB
    have H0 := Lib.hid h0
    clear hB h0
    go_wp2
    go_ret2
    exact ⟨⟨B, HB.out, .inl ⟨H0.out, rfl⟩⟩, by repeat (first | (with_reducible exact Below.refl _ _) | (with_reducible refine Below.setCell ?_ ?_ _) | (with_reducible refine Below.drew ?_) | (with_reducible refine Below.alloc ?_ ?_ _) | (with_reducible refine Below.trans ?_ (Below.mono B1 ?_)) | (with_reducible exact B1.size) | omega | (simp <;> omega) | (simp <;> (have s := B1.size; omega)) | (have s0 := B1.size; (try simp at s0); (try simp); omega))⟩
  · have B1 := bel2 hw1
    have HB := Lib.hid hB
    have H0 := Lib.hid h0
    clear hB h0
    go_wp2
    go_ret2
    exact ⟨⟨B, HB.out, .inr ⟨by rw [H0.out]; simp, rfl⟩⟩, by repeat (first | (with_reducible exact Below.refl _ _) | (with_reducible refine Below.setCell ?_ ?_ _) | (with_reducible refine Below.drew ?_) | (with_reducible refine Below.alloc ?_ ?_ _) | (with_reducible refine Below.trans ?_ (Below.mono B1 ?_)) | (with_reducible exact B1.size) | omega | (simp <;> omega) | (simp <;> (have s := B1.size; omega)) | (have s0 := B1.size; (try simp at s0); (try simp); omega))⟩
end Go.Proofs.YtkgihmhehkaocaaGreat

/- Fields with a certificate have the same traces, and the opposite certificate: mathematics.
Conditions: those written at each theorem. -/
namespace Go.Proofs.YtkgihmhehkaocaaGreat
set_option linter.unusedVariables false
set_option linter.unusedSimpArgs false
set_option maxRecDepth 1000000
open Um Tm

theorem lin_r {P R : Q} {x y : Int} (u : Q) (h : ∀ i, i < 4 → cmp i P * x = cmp i R * y) : ∀ k, k < 4 → cmp k (mul P u) * x = cmp k (mul R u) * y := fun k hk => by
  have h0 : P.a * x = R.a * y := h 0 (by decide)
  have h1 : P.b * x = R.b * y := h 1 (by decide)
  have h2 : P.c * x = R.c * y := h 2 (by decide)
  have h3 : P.d * x = R.d * y := h 3 (by decide)
  clear h
  rcases cases4 hk with rfl | rfl | rfl | rfl <;> simp only [cmp, mul] <;> simp <;> grind
theorem lin_l {P R : Q} {x y : Int} (u : Q) (h : ∀ i, i < 4 → cmp i P * x = cmp i R * y) : ∀ k, k < 4 → cmp k (mul u P) * x = cmp k (mul u R) * y := fun k hk => by
  have h0 : P.a * x = R.a * y := h 0 (by decide)
  have h1 : P.b * x = R.b * y := h 1 (by decide)
  have h2 : P.c * x = R.c * y := h 2 (by decide)
  have h3 : P.d * x = R.d * y := h 3 (by decide)
  clear h
  rcases cases4 hk with rfl | rfl | rfl | rfl <;> simp only [cmp, mul] <;> simp <;> grind
theorem cmp_scale (k : Nat) (s : Int) (x : Q) : cmp k (scale s x) = s * cmp k x := by
  unfold cmp scale
  split
  · rfl
  · split
    · rfl
    · split <;> rfl
theorem turns_back {q u v : Q} (hu : U u) (hv : U v) (h : turnsP q u v) : turnsP (bar q) v u := fun k hk => by
  have h1 : ∀ i, i < 4 → cmp i (mul (bar u) (bar q)) * v.n = cmp i (mul (bar q) (bar v)) * u.n := fun i hi => by
    rw [← bar_mul', ← bar_mul']
    have hc : ∀ x : Q, cmp i (bar x) = cmp i x ∨ cmp i (bar x) = -(cmp i x) := fun x => by
      rcases cases4 hi with rfl | rfl | rfl | rfl
      · exact .inl rfl
      · exact .inr rfl
      · exact .inr rfl
      · exact .inr rfl
    have hb : ∀ x : Q, cmp i (bar x) = (if i = 0 then 1 else -1) * cmp i x := fun x => by
      rcases cases4 hi with rfl | rfl | rfl | rfl <;> simp [cmp, bar]
    rw [hb, hb]
    have := h i hi
    rw [Int.mul_assoc, Int.mul_assoc, this]
  have e := lin_l u (lin_r v h1) k hk
  rw [mul_assoc (bar u) (bar q) v, ← mul_assoc u (bar u), mul_bar u hu, scale_mul, one_mul', cmp_scale, mul_assoc (bar q) (bar v) v, bar_mul v hv, mul_scale, mul_one', mul_scale, cmp_scale] at e
  have hp := Int.mul_pos hu.pos hv.pos
  have e2 : u.n * v.n * (cmp k (mul (bar q) v) * u.n) = u.n * v.n * (cmp k (mul u (bar q)) * v.n) := by
    generalize cmp k (mul (bar q) v) = p at *
    generalize cmp k (mul u (bar q)) = r at *
    grind
  exact Int.eq_of_mul_eq_mul_left (by omega) e2
theorem turns_a {q u v : Q} (h : turnsP q u v) (hz : ¬ Z4 q) : u.a * v.n = v.a * u.n := by
  have e := lin_r (bar q) h 0 (by decide)
  have c1 : cmp 0 (mul (mul q u) (bar q)) = (q.a * q.a + q.b * q.b + q.c * q.c + q.d * q.d) * u.a := by simp only [cmp, mul, bar]; simp; grind
  have c2 : cmp 0 (mul (mul v q) (bar q)) = (q.a * q.a + q.b * q.b + q.c * q.c + q.d * q.d) * v.a := by simp only [cmp, mul, bar]; simp; grind
  rw [c1, c2, Int.mul_assoc, Int.mul_assoc] at e
  have hn : q.a * q.a + q.b * q.b + q.c * q.c + q.d * q.d ≠ 0 := fun h0 => hz (by
    have sq : ∀ x : Int, 0 ≤ x * x := fun x => by
      rcases Int.le_total 0 x with h | h
      · exact Int.mul_nonneg h h
      · exact Int.mul_nonneg_of_nonpos_of_nonpos h h
    have h1 := sq q.a
    have h2 := sq q.b
    have h3 := sq q.c
    have h4 := sq q.d
    have z : ∀ x : Int, x * x = 0 → x = 0 := fun x hx => by rcases Int.mul_eq_zero.1 hx with h | h <;> exact h
    exact ⟨z _ (by omega), z _ (by omega), z _ (by omega), z _ (by omega)⟩)
  exact Int.eq_of_mul_eq_mul_left hn e
end Go.Proofs.YtkgihmhehkaocaaGreat

/- Answers that are fields, in one form.
Conditions: none. -/
namespace Go.Proofs.YtkgihmhehkaocaaGreat
set_option linter.unusedVariables false
set_option linter.unusedSimpArgs false
set_option maxRecDepth 1000000
open Go.RowKit
open Um Tm

/-- a field and no error are answered -/
def RetTf (a b c : Int) (n : Nat) (T : List Q) (e : Ending) (w' : World) : Prop := ∃ g k : Nat, e = .returned (.tuple #[.agg #[.int .i64 a, .int .i64 b, .int .i64 c, .slice (some ⟨g, 0, none⟩) n k], .int .i64 0]) ∧ LBox w' g T
/-- a field and the error r are answered -/
def AnyF (r : Int) (e : Ending) : Prop := ∃ (x y z : Int) (so : Option Addr) (n k : Nat), e = .returned (.tuple #[.agg #[.int .i64 x, .int .i64 y, .int .i64 z, .slice so n k], .int .i64 r])
theorem trf_any (a b c : Int) (ao go : Option Addr) (cap gc : Nat) (L G : List Q) (hlen : L.length ≤ 1000000) (hlen2 : G.length ≤ 1000000) : ∃ r : Int, ∀ W : World, LiesO W ao L → LiesO W go G → Calls Tryz.prog 14 #[.agg #[.int .i64 a, .int .i64 b, .int .i64 c, .slice ao L.length cap], .slice go G.length gc] W fun e w' => AnyF r e ∧ Below W.heap.size W w' := by
  obtain ⟨r, hr⟩ := gaR_ex a b c L G
  by_cases h0 : r = 0
  · subst h0
    have hp := fld_pos1 (gaR_ok hr).1
    have hgp : 0 < G.length := by have := (gaR_Gg hr).n; omega
    by_cases hl : Lim (tfL a b c L G)
    · refine ⟨0, fun W h h' => ?_⟩
      obtain ⟨b1, o1, rfl, k1⟩ := liesO_one h hp
      obtain ⟨b2, o2, rfl, k2⟩ := liesO_one h' hgp
      exact (gaT_lim a b c b1 o1 b2 o2 cap gc L G W k1 k2 hr hl).mono fun e w' ⟨⟨g, k, e1, _⟩, hw⟩ => ⟨⟨_, _, _, _, _, _, e1⟩, hw⟩
    · refine ⟨3, fun W h h' => ?_⟩
      obtain ⟨b1, o1, rfl, k1⟩ := liesO_one h hp
      obtain ⟨b2, o2, rfl, k2⟩ := liesO_one h' hgp
      exact (gaT_not a b c b1 o1 b2 o2 cap gc L G W k1 k2 hr hl).mono fun e w' ⟨e1, hw⟩ => ⟨⟨_, _, _, _, _, _, e1⟩, hw⟩
  · exact ⟨r, fun W h h' => (gaT_bad a b c r ao go cap gc L G W h h' hr h0 hlen hlen2).mono fun e w' ⟨e1, hw⟩ => ⟨⟨_, _, _, _, _, _, e1⟩, hw⟩⟩
end Go.Proofs.YtkgihmhehkaocaaGreat
