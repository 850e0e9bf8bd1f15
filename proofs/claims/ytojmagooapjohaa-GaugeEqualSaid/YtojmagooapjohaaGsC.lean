/- A field that is transformed and transformed back, and the answers of Transform.
Conditions: those written at each theorem. -/
import Derived.Test.YtojmagooapjohaaGauC
namespace Go.Proofs.Ytojmagooapjohaa
set_option linter.unusedVariables false
set_option linter.unusedSimpArgs false
set_option maxRecDepth 1000000
open Go.RowKit
open Um Tm

theorem fld_pos1 {a b c : Int} {L : List Q} (h : fldR a b c L 0) : 0 < L.length := by
  have hz := (fldR_ok h).1
  have hn := (fldR_ok h).2.1
  obtain ⟨-, -, p3, -⟩ := mul_rng hz.a1 hz.a4 hz.b1 hz.b4 hz.c1 hz.c4
  omega
theorem liesO_one {w : World} {ao : Option Addr} {L : List Q} (h : LiesO w ao L) (hp : 0 < L.length) : ∃ b f, ao = some ⟨b, f, none⟩ ∧ Lies w b f L := by
  rcases h with h | h
  · rw [h] at hp; exact absurd hp (by simp)
  · exact h
theorem low_mid (x M z : Q) (h : 0 < M.n) : low (mul (mul x (low M)) z) = low (mul (mul x M) z) := by
  have hg := g_pos M h
  have e : mul (mul x M) z = scale (g M) (mul (mul x (low M)) z) := by
    rw [← scale_mul, ← mul_scale, scale_low]
  rw [e, low_scale _ _ hg]
theorem tf_back {x y z : Q} (hx : U x) (hy : V y) (hz : U z) : low (mul (mul (bar x) (low (mul (mul x y) (bar z)))) (bar (bar z))) = y := by
  have hM : 0 < (mul (mul x y) (bar z)).n := (mul_len _ _ (mul_len _ _ hx hy.u) (bar_len _ hz)).pos
  rw [low_mid _ _ _ hM, bar_bar]
  have e : mul (mul (bar x) (mul (mul x y) (bar z))) z = scale (z.n * z.n) (scale (x.n * x.n) y) := by
    rw [← mul_assoc (bar x) (mul x y) (bar z), ← mul_assoc (bar x) x y, bar_mul x hx, scale_mul, one_mul', mul_assoc (scale (x.n * x.n) y) (bar z) z, bar_mul z hz, mul_scale, mul_one']
  have px := hx.pos
  have pz := hz.pos
  rw [e, low_scale _ _ (Int.mul_pos pz pz), low_scale _ _ (Int.mul_pos px px), hy.low]
theorem tfK_V {a b c : Int} {L G : List Q} (hF : Fl a b c L) (hG : Gg L G) {k : Nat} (hk : k < L.length) : V (tfK a b c L G k) := by
  have hn := hF.n
  have hgn := hG.n
  obtain ⟨t0, t1⟩ := ahd_rng hF.z k
  have vx := hG.v _ _ (lk_at (L := G) (i := k / 3) (by omega))
  have vy := hF.v _ _ (lk_at (L := L) (i := k) hk)
  have vz := hG.v _ _ (lk_get (L := G) (i := ahd a b c k) t0 (by omega))
  have h2 := mul_bnd25 (mul_bnd5 vx vy) ⟨vz.1.bar, vz.2⟩
  exact V.of_low h2.1 (by have := low_le _ h2.1.pos; omega)
theorem tf_Gg {a b c : Int} {L G : List Q} (hG : Gg L G) : Gg (tfL a b c L G) G := ⟨by rw [tfL_len]; exact hG.n, hG.v⟩
theorem bar_Gg {L G : List Q} (hG : Gg L G) : Gg L (G.map bar) := ⟨by rw [List.length_map]; exact hG.n, fun i x hx => by
  rw [List.getElem?_map] at hx
  cases h : G[i]? with
  | none => rw [h] at hx; cases hx
  | some y =>
    rw [h] at hx
    simp only [Option.map_some, Option.some.injEq] at hx
    subst hx
    exact ⟨(hG.v _ _ h).1.bar, (hG.v _ _ h).2⟩⟩
theorem tf_fldR {a b c : Int} {L G : List Q} (hF : Fl a b c L) (hG : Gg L G) (hl : Lim (tfL a b c L G)) : fldR a b c (tfL a b c L G) 0 :=
  .inr (.inr ⟨hF.z, by rw [tfL_len]; exact hF.n, .inl ⟨fun i x hx => by
    have hi : i < L.length := by have := (List.getElem?_eq_some_iff.1 hx).1; rwa [tfL_len] at this
    have h5 := hl i x hx
    rw [tfL_get hi] at hx
    have := Option.some.inj hx
    subst this
    exact .inr (.inr ⟨tfK_V hF hG hi, h5, rfl⟩), rfl⟩⟩)
theorem gaR_mk {a b c : Int} {L G : List Q} (hF : fldR a b c L 0) (hG : Gg L G) : gaR a b c L G 0 :=
  .inr (.inr ⟨hF, hG.n, .inl ⟨fun i x hx => .inr (.inr ⟨(hG.v i x hx).1, (hG.v i x hx).2, rfl⟩), rfl⟩⟩)
theorem tf_tf {a b c : Int} {L G : List Q} (hF : Fl a b c L) (hG : Gg L G) : tfL a b c (tfL a b c L G) (G.map bar) = L := by
  have hn := hF.n
  have hgn := hG.n
  apply List.ext_getElem?
  intro i
  by_cases hi : i < L.length
  · rw [tfL_get (by rw [tfL_len]; exact hi), lk_at hi]
    congr 1
    obtain ⟨t0, t1⟩ := ahd_rng hF.z i
    have hx := lk_at (L := G) (i := i / 3) (by omega)
    have hz := lk_get (L := G) (i := ahd a b c i) t0 (by omega)
    have e1 : lk (G.map bar) ((i / 3 : Nat) : Int) = bar (lk G ((i / 3 : Nat) : Int)) := by
      have := lk_at (L := G.map bar) (i := i / 3) (by rw [List.length_map]; omega)
      rw [List.getElem?_map, hx] at this
      exact (Option.some.inj this).symm
    have e2 : lk (G.map bar) (ahd a b c i) = bar (lk G (ahd a b c i)) := by
      have := lk_get (L := G.map bar) (i := ahd a b c i) t0 (by rw [List.length_map]; omega)
      rw [List.getElem?_map, hz] at this
      exact (Option.some.inj this).symm
    have e3 : lk (tfL a b c L G) (i : Int) = tfK a b c L G i := by
      have := lk_at (L := tfL a b c L G) (i := i) (by rw [tfL_len]; exact hi)
      rw [tfL_get hi] at this
      exact (Option.some.inj this).symm
    rw [tfK, e1, e2, e3, tfK]
    exact tf_back (hG.v _ _ hx).1.u (hF.v _ _ (lk_at hi)).1 (hG.v _ _ hz).1.u
  · rw [List.getElem?_eq_none (by rw [tfL_len, tfL_len]; omega), List.getElem?_eq_none (by omega)]
theorem Fl_lim {a b c : Int} {L : List Q} (hF : Fl a b c L) : Lim L := fun i x hx => (hF.v i x hx).2
/-- Transform where the field is not too great, and where it is -/
theorem gaT_lim (a b c : Int) (bl off gl goff cap gc : Nat) (L G : List Q) (w : World) (h : Lies w bl off L) (hg : Lies w gl goff G) (hr : gaR a b c L G 0) (hl : Lim (tfL a b c L G)) : Calls Try.prog 13 #[.agg #[.int .i64 a, .int .i64 b, .int .i64 c, .slice (some ⟨bl, off, none⟩) L.length cap], .slice (some ⟨gl, goff, none⟩) G.length gc] w fun e w' => (∃ g k : Nat, e = .returned (.tuple #[.agg #[.int .i64 a, .int .i64 b, .int .i64 c, .slice (some ⟨g, 0, none⟩) L.length k], .int .i64 0]) ∧ LBox w' g (tfL a b c L G)) ∧ Below w.heap.size w w' :=
  (gaT_ok a b c bl off gl goff cap gc L G w h hg hr).mono fun e w' ⟨hr, hb⟩ => ⟨by
    rcases hr with ⟨_, g, k, h1, h2, -⟩ | ⟨h, _⟩
    · exact ⟨g, k, h1, h2⟩
    · exact absurd hl h, hb⟩
theorem gaT_not (a b c : Int) (bl off gl goff cap gc : Nat) (L G : List Q) (w : World) (h : Lies w bl off L) (hg : Lies w gl goff G) (hr : gaR a b c L G 0) (hl : ¬ Lim (tfL a b c L G)) : Calls Try.prog 13 #[.agg #[.int .i64 a, .int .i64 b, .int .i64 c, .slice (some ⟨bl, off, none⟩) L.length cap], .slice (some ⟨gl, goff, none⟩) G.length gc] w fun e w' => e = .returned (.tuple #[.agg #[.int .i64 0, .int .i64 0, .int .i64 0, .slice none 0 0], .int .i64 3]) ∧ Below w.heap.size w w' :=
  (gaT_ok a b c bl off gl goff cap gc L G w h hg hr).mono fun e w' ⟨hr, hb⟩ => ⟨by
    rcases hr with ⟨h, _⟩ | ⟨_, h⟩
    · exact absurd h hl
    · exact h, hb⟩
end Go.Proofs.Ytojmagooapjohaa
