/- TopTime: time can be turned round, for all fields, momenta and plans.
Conditions: none. -/
import Derived.Test.YtilbhcjnkmeecaaKqM
import Derived.Test.YtilbhcjnkmeecaaTtM
import Derived.Test.YtilbhcjnkmeecaaKnM
import Derived.Test.YtilbhcjnkmeecaaSane6
import Derived.Test.YtilbhcjnkmeecaaLawValK
import Derived.Test.YtilbhcjnkmeecaaOpenKA
import Derived.Test.YtilbhcjnkmeecaaJFacts
namespace Go.Proofs.Ytilbhcjnkmeecaa
set_option linter.unusedVariables false
set_option linter.unusedSimpArgs false
set_option maxRecDepth 1000000
section
open Go.ChangeShapes Go.WideShapes Go.ChangeAt Go.RowKit Go.Joins Go.Deep
variable {H : Type} {enc : TypeId × Value → H} {w : World} {base : Nat} {spare : Nat → Bool} {held : Bool}
theorem cells_plan : Try.prog.cellsOf 65 = 3 := by kernel_rfl
theorem one_of_plan {fs : Array Field} (_ : Try.prog.underlying 65 = some (.struct fs)) (h : oneCellFields Try.prog fs = true) : oneCellFields Try.prog fs = true := h
theorem open_plan {r : Reach} {b0 : Nat} {v : Value} {d : DataW H} {p : List MemPlace} (hv : Value.okWide Try.prog w r b0 65 v) (h : DataW.Trod enc Try.prog w base spare held 65 v d p) : ∃ a b c : Int, v = .agg #[.int .i64 a, .int .i64 b, .int .i64 c] := by
  obtain ⟨cs, rfl, hsz⟩ := okWide_struct Try.underlying65 hv
  obtain ⟨l⟩ := cs
  match l, hsz.trans cells_plan with
  | [c0, c1, c2], _ =>
    obtain ⟨fuel, hf⟩ := h
    obtain ⟨xs, n, _, _, _, hlen, hg⟩ := DataW.trod_struct Try.underlying65 hf
    have hone := one_of_plan (fs := _) Try.underlying65 (by kernel_rfl)
    match xs, hlen with
    | [y0, y1, y2], _ =>
      obtain ⟨o0, k0⟩ := hone_of hone 0 _ rfl
      obtain ⟨o1, k1⟩ := hone_of hone 1 _ rfl
      obtain ⟨o2, k2⟩ := hone_of hone 2 _ rfl
      obtain ⟨a0, e0, _, _⟩ := DataW.trod_int Try.underlying3 (show DataW.trod enc Try.prog w base spare held n 3 [c0] = some y0 by simpa [Value.cells, o0, cells3] using hg 0 _ rfl)
      obtain ⟨a1, e1, _, _⟩ := DataW.trod_int Try.underlying3 (show DataW.trod enc Try.prog w base spare held n 3 [c1] = some y1 by simpa [Value.cells, o1, cells3] using hg 1 _ rfl)
      obtain ⟨a2, e2, _, _⟩ := DataW.trod_int Try.underlying3 (show DataW.trod enc Try.prog w base spare held n 3 [c2] = some y2 by simpa [Value.cells, o2, cells3] using hg 2 _ rfl)
      simp at e0 e1 e2
      subst e0 e1 e2
      exact ⟨a0, a1, a2, rfl⟩
end
open Go.ChangeShapes Go.WideShapes Go.ChangeAt Go.RowKit
open Um Tm Cm Km

theorem lo_liesI {W : World} {bl off : Nat} {l : List Int} (h : LiesOI W (some ⟨bl, off, none⟩) l) : LiesI W bl off l := by
  rcases h with rfl | ⟨b, o, he, h⟩
  · intro i x hx; simp at hx
  · simp only [Option.some.injEq, Addr.mk.injEq, and_true] at he
    obtain ⟨rfl, rfl⟩ := he
    exact h
theorem same_ownT (a b c : Int) (g k n : Nat) (fo : Option Addr) (cap : Nat) (L : List Q) (w : World) (hn : L.length = n) (h1 : Lies w g 0 L) (h2 : LiesO w fo L) (hlen : n ≤ 100) : Calls Try.prog 29 #[.agg #[.int .i64 a, .int .i64 b, .int .i64 c, .slice (some ⟨g, 0, none⟩) n k], .agg #[.int .i64 a, .int .i64 b, .int .i64 c, .slice fo n cap]] w fun e w' => e = .returned (.bool true) ∧ Below w.heap.size w w' := by
  subst hn
  by_cases hL : L = []
  · subst hL
    exact sameF_nil a b c (some ⟨g, 0, none⟩) fo k cap w
  · rcases h2 with h2 | ⟨bl, off, rfl, h2⟩
    · exact absurd h2 hL
    · exact sameF_some a b c g 0 k bl off cap L w h1 h2 (by omega)
theorem turner_ex (W : World) : Calls Try.prog 19 #[.agg #[.int .i64 0, .int .i64 7, .int .i64 2]] W fun e w' => e = .returned (.tuple #[.agg #[.int .i64 0, .int .i64 0, .int .i64 (-1), .int .i64 0, .int .i64 1], .int .i64 0]) ∧ Below W.heap.size W w' :=
  turnerO_any ⟨0, 7, 2⟩ W 0 ⟨0, 0, -1, 0, 1⟩ (.inl ⟨by decide, by decide, rfl⟩)
theorem energy_st (a b c : Int) (bl off cap pb po pc n N : Nat) (L : List Q) (l : List Int) (x v : Int) (W : World) (h : Lies W bl off L) (hp : LiesI W pb po l) (hst : St a b c n L l) (hN : (N : Int) = a * b * c) (x0 : 0 ≤ x) (x1 : x ≤ 10) (hv : enr a b c L N l x = v) : Calls Try.prog 34 #[.agg #[.int .i64 a, .int .i64 b, .int .i64 c, .slice (some ⟨bl, off, none⟩) n cap], .slice (some ⟨pb, po, none⟩) n pc, .int .i64 x] W fun e w' => e = .returned (.tuple #[.int .i64 v, .int .i64 0]) ∧ Below W.heap.size W w' := by
  have := energy_ok a b c bl off cap pb po pc n N L _ l x W h hp hst.m (St_nums hst).1 (St_nums hst).2 hN x0 x1
  rw [hst.e, hv] at this
  exact this
theorem run_st (a b c : Int) (bl off cap pb po pc n N x : Nat) (L : List Q) (l : List Int) (s : List Q × List Int) (W : World) (h : Lies W bl off L) (hp : LiesI W pb po l) (hst : St a b c n L l) (hN : (N : Int) = a * b * c) (hx : x ≤ 100) (hs : rn a b c (L, l) x = s) : Calls Try.prog 27 #[.agg #[.int .i64 a, .int .i64 b, .int .i64 c, .slice (some ⟨bl, off, none⟩) n cap], .slice (some ⟨pb, po, none⟩) n pc, .int .i64 x] W fun e w' => RetRun a b c n W.heap.size s e w' ∧ Below W.heap.size W w' := by
  have := run_ok a b c bl off cap pb po pc n N x L l W h hp hst hN hx
  rw [hst.e, hs] at this
  exact this
theorem reverse_st (a b c : Int) (g k gm km n : Nat) (L : List Q) (l o : List Int) (W : World) (h1 : Lies W g 0 L) (h2 : LiesI W gm 0 l) (hst : St a b c n L l) (h48 : n ≤ 48) (ho : Km.rvl l = o) : Calls Try.prog 14 #[.agg #[.int .i64 a, .int .i64 b, .int .i64 c, .slice (some ⟨g, 0, none⟩) n k], .slice (some ⟨gm, 0, none⟩) n km] W fun e w' => RetV W.heap.size o n e w' ∧ Below W.heap.size W w' := by
  obtain ⟨hr, hv⟩ := St_nums hst
  have := reverse_ok a b c (some ⟨g, 0, none⟩) k gm 0 km n L _ l W (.inr ⟨g, 0, rfl, h1⟩) h2 hst.m hr hv (by rw [hst.e]; exact h48)
  rw [hst.e, show l.map oppN = o from ho] at this
  exact this
theorem period_st (a b c : Int) (bl off cap pb po pc n N x : Nat) (r : Int) (q : Bool) (L : List Q) (l : List Int) (W : World) (h : Lies W bl off L) (hp : LiesI W pb po l) (hst : St a b c n L l) (hN : (N : Int) = a * b * c) (hx1 : 1 ≤ x) (hx : x ≤ 1000) (hper : perR a b c (L, l) x r q) : Calls Try.prog 40 #[.agg #[.int .i64 a, .int .i64 b, .int .i64 c, .slice (some ⟨bl, off, none⟩) n cap], .slice (some ⟨pb, po, none⟩) n pc, .int .i64 x] W fun e w' => e = .returned (.tuple #[.int .i64 r, .bool q, .int .i64 0]) ∧ Below W.heap.size W w' := by
  have := period_ok a b c bl off cap pb po pc n N x r q L l W h hp hst hN hx1 hx hper
  rw [hst.e] at this
  exact this
set_option maxHeartbeats 3200000 in
theorem topTime_out (a b c s x be : Int) (ao po : Option Addr) (m cap pc pn : Nat) (w : World) (h : (100 < m ∨ 100 < pn) ∨ (m ≤ 100 ∧ pn ≤ 100 ∧ 40 < x)) : Calls Try.prog 11 #[.agg #[.int .i64 a, .int .i64 b, .int .i64 c, .slice ao m cap], .slice po pn pc, .agg #[.int .i64 s, .int .i64 x, .int .i64 be]] w fun e w' => e = .returned (.bool true) ∧ Below w.heap.size w w' := by
  have ct := turner_ex
  rcases h with h | ⟨h1, h2, h3⟩
  · have c0 := fun W : World => long6_any a b c ao po cap pc m pn true W (.inr ⟨h, rfl⟩)
    clear h
    go_enter Try.func11, Try.ntmps11
    go_wp2_with (first | ((with_reducible refine (ct _).mono ?_); rintro e w1 ⟨rfl, hw1⟩; have hc1 := Tail.cells hw1; have s1 := hw1.size; (try simp at s1); (try have z1_0 : w.heap.size < w1.heap.size := (by omega)); (try have z1_1 : w.heap.size + 1 < w1.heap.size := (by omega)); clear s1) | ((with_reducible refine (c0 _).mono ?_); rintro e w2 ⟨rfl, hw2⟩; have hc2 := Tail.cells hw2; have s2 := hw2.size; (try simp at s2); (try have z2_0 : w.heap.size < w2.heap.size := (by omega)); (try have z2_1 : w.heap.size + 1 < w2.heap.size := (by omega)); (try have z2_2 : w1.heap.size < w2.heap.size := (by omega)); clear s2))
    go_ret
    exact ⟨rfl, by repeat (first | (with_reducible exact Below.refl _ _) | (with_reducible refine Below.setCell ?_ ?_ _) | (with_reducible refine Below.drew ?_) | (with_reducible refine Below.alloc ?_ ?_ _) | (with_reducible refine Below.trans ?_ (Below.mono hw2 ?_)) | (with_reducible refine Below.trans ?_ (Below.mono hw1 ?_)) | (with_reducible exact hw2.size) | (with_reducible exact hw1.size) | omega | (simp <;> omega) | (simp <;> (have s := hw2.size; omega)) | (simp <;> (have s := hw1.size; omega)) | (have s0 := hw2.size; (try simp at s0); have s1 := hw1.size; (try simp at s1); (try simp); omega))⟩
  · have c0 := fun W : World => long6_any a b c ao po cap pc m pn false W (.inl ⟨h1, h2, rfl⟩)
    clear h1 h2
    go_enter Try.func11, Try.ntmps11
    go_wp2_with (first | ((with_reducible refine (ct _).mono ?_); rintro e w1 ⟨rfl, hw1⟩; have hc1 := Tail.cells hw1; have s1 := hw1.size; (try simp at s1); (try have z1_0 : w.heap.size < w1.heap.size := (by omega)); (try have z1_1 : w.heap.size + 1 < w1.heap.size := (by omega)); clear s1) | ((with_reducible refine (c0 _).mono ?_); rintro e w2 ⟨rfl, hw2⟩; have hc2 := Tail.cells hw2; have s2 := hw2.size; (try simp at s2); (try have z2_0 : w.heap.size < w2.heap.size := (by omega)); (try have z2_1 : w.heap.size + 1 < w2.heap.size := (by omega)); (try have z2_2 : w1.heap.size < w2.heap.size := (by omega)); clear s2))
    go_ret
    exact ⟨rfl, by repeat (first | (with_reducible exact Below.refl _ _) | (with_reducible refine Below.setCell ?_ ?_ _) | (with_reducible refine Below.drew ?_) | (with_reducible refine Below.alloc ?_ ?_ _) | (with_reducible refine Below.trans ?_ (Below.mono hw2 ?_)) | (with_reducible refine Below.trans ?_ (Below.mono hw1 ?_)) | (with_reducible exact hw2.size) | (with_reducible exact hw1.size) | omega | (simp <;> omega) | (simp <;> (have s := hw2.size; omega)) | (simp <;> (have s := hw1.size; omega)) | (have s0 := hw2.size; (try simp at s0); have s1 := hw1.size; (try simp at s1); (try simp); omega))⟩
theorem topTime_walk (a b c : Int) (ao : Option Addr) (L : List Q) (cap : Nat) (po : Option Addr) (l : List Int) (pn pc : Nat) (s x be : Int) (w : World) (_ : L.length ≤ maxLen) (hm : LiesO w ao L) (hpl : l.length = pn * 3) (_ : pn ≤ pc) (_ : pc ≤ maxLen) (hp : LiesOI w po l) (_ : po = none → pc = 0) : Calls Try.prog 11 #[.agg #[.int .i64 a, .int .i64 b, .int .i64 c, .slice ao L.length cap], .slice po pn pc, .agg #[.int .i64 s, .int .i64 x, .int .i64 be]] w fun e w' => e = .returned (.bool true) ∧ Below w.heap.size w w' := by
  by_cases hin : (L.length ≤ 100 ∧ pn ≤ 100) ∧ x ≤ 40
  · obtain ⟨⟨hL, hn⟩, hx⟩ := hin
    obtain ⟨ns, r0, hr⟩ := numsR_ex a b c L
    obtain ⟨r, hv⟩ := vkR_ex L.length pn l r0
    have hLg := fun W : World => long6_any a b c ao po cap pc L.length pn false W (.inl ⟨hL, hn, rfl⟩)
    -- the second part, where it is reached
    by_cases h2 : r0 = 0 ∧ IsSeed s ∧ (0 ≤ x ∧ x ≤ 100) ∧ (0 ≤ be ∧ be ≤ 10)
    · obtain ⟨rfl, hs, ⟨hx0, -⟩, b0, b1⟩ := h2
      obtain ⟨k, rfl⟩ := Int.eq_ofNat_of_zero_le hx0
      obtain ⟨n, hLn⟩ : ∃ n, L.length = n := ⟨_, rfl⟩
      have hst := St_moms (s := s) hr hLn
      have hst4 := hst.rn k
      have h48 : n ≤ 48 := by have := hst.f.n; have := hst.e; have := hst.f.z.p; omega
      have hnn : (n : Int) = 3 * (a * b * c) := by have := hst.f.n; have := hst.e; omega
      obtain ⟨N, hN⟩ := Int.eq_ofNat_of_zero_le (show 0 ≤ a * b * c by obtain ⟨-, -, p3, -⟩ := mul_rng hst.f.z.a1 hst.f.z.a4 hst.f.z.b1 hst.f.z.b4 hst.f.z.c1 hst.f.z.c4; omega)
      have hn0 : 0 < n := by have := hst.f.n; obtain ⟨-, -, p3, -⟩ := mul_rng hst.f.z.a1 hst.f.z.a4 hst.f.z.b1 hst.f.z.b4 hst.f.z.c1 hst.f.z.c4; omega
      obtain ⟨bl, off, rfl, hm2⟩ := fld_some (numsR_smR hr).1 hm
      have hM := fun W : World => momenta_ok a b c s n W hst.f.z hnn hs
      have hTr := fun (W : World) (h : LiesO W (some ⟨bl, off, none⟩) L) => trajectory_ok a b c s be bl off cap n N k L ns W (lo_lies h) hr hLn hN.symm hs (by omega) b0 b1
      have hR3 := tj_R a b c bl off cap n N k L _ hst hN.symm (by omega)
      have hE5 := fun (W : World) (gm km : Nat) (h : LiesO W (some ⟨bl, off, none⟩) L) (h2 : LiesI W gm 0 (moms s (n * 3))) => energy_st a b c bl off cap gm 0 km n N L _ be _ W (lo_lies h) h2 hst hN.symm b0 b1 rfl
      have hE6 := fun (W : World) (g k' gm km : Nat) (h : Lies W g 0 (rn a b c (L, moms s (n * 3)) k).1) (h2 : LiesI W gm 0 (rn a b c (L, moms s (n * 3)) k).2) => energy_st a b c g 0 k' gm 0 km n N _ _ be _ W h h2 hst4 hN.symm b0 b1 rfl
      have hA : ∀ q : Bool, tac a b c n N L s k be = q → ∀ W : World, Calls Try.prog 38 #[.int .i64 (enr a b c (rn a b c (L, moms s (n * 3)) k).1 N (rn a b c (L, moms s (n * 3)) k).2 be - enr a b c L N (moms s (n * 3)) be), .int .i64 (drw (adm s (n * 3)) 1073741824)] W fun e w' => e = .returned (.tuple #[.bool q, .int .i64 0]) ∧ W = w' := fun q hq W => accept_any _ _ 0 q W (.inl ⟨drw_rng _, hq.symm, rfl⟩)
      have hwr : IntKind.i64.wrap (enr a b c (rn a b c (L, moms s (n * 3)) k).1 N (rn a b c (L, moms s (n * 3)) k).2 be - enr a b c L N (moms s (n * 3)) be) = enr a b c (rn a b c (L, moms s (n * 3)) k).1 N (rn a b c (L, moms s (n * 3)) k).2 be - enr a b c L N (moms s (n * 3)) be := by
        obtain ⟨r0, r1⟩ := enr_rng hst hN.symm b0 b1
        obtain ⟨s0, s1⟩ := enr_rng hst4 hN.symm b0 b1
        exact IntWalk.i64_in _ (by omega)
      have hS2t : tac a b c n N L s k be = true → ∀ (W : World) (g k1 g2 k2 : Nat), Lies W g 0 (tfl a b c n N L s k be) → Lies W g2 0 (rn a b c (L, moms s (n * 3)) k).1 → Calls Try.prog 29 #[.agg #[.int .i64 a, .int .i64 b, .int .i64 c, .slice (some ⟨g, 0, none⟩) n k1], .agg #[.int .i64 a, .int .i64 b, .int .i64 c, .slice (some ⟨g2, 0, none⟩) n k2]] W fun e w' => e = .returned (.bool true) ∧ Below W.heap.size W w' := fun hq W g k1 g2 k2 h1 h2 => by
        unfold tfl at h1
        rw [if_pos hq] at h1
        exact same_ownT a b c g k1 n _ k2 _ W hst4.e h1 (.inr ⟨g2, 0, rfl, h2⟩) (by omega)
      have hS2f : tac a b c n N L s k be = false → ∀ (W : World) (g k1 : Nat), Lies W g 0 (tfl a b c n N L s k be) → LiesO W (some ⟨bl, off, none⟩) L → Calls Try.prog 29 #[.agg #[.int .i64 a, .int .i64 b, .int .i64 c, .slice (some ⟨g, 0, none⟩) n k1], .agg #[.int .i64 a, .int .i64 b, .int .i64 c, .slice (some ⟨bl, off, none⟩) n cap]] W fun e w' => e = .returned (.bool true) ∧ Below W.heap.size W w' := fun hq W g k1 h1 h2 => by
        unfold tfl at h1
        rw [if_neg (by rw [hq]; decide)] at h1
        exact same_ownT a b c g k1 n _ cap _ W hst.e h1 h2 (by omega)
      rw [hLn] at hLg ⊢
      by_cases h1 : r = 0
      · subst h1
        have hpn : pn = n ∧ AllK l := by rw [hLn] at hv; exact vk_ok hv
        obtain ⟨rfl, hall⟩ := hpn
        have hs0 : St a b c pn L l := ⟨hst.f, hst.s, hLn, hpl, hall⟩
        have hs1 := hs0.rn k
        have hs2 := hs1.rv
        have hs3 := hs0.rv
        have hback := rn_back hs0 k
        obtain ⟨t, y, hper⟩ := perR_ex a b c (L, l) 20
        have hper2 : perR a b c ((rn a b c (L, l) k).1, Km.rvl (rn a b c (L, l) k).2) 20 t y := perR_cong (fun j => ((per_rn hs0 j k).symm.trans (per_rv hs1 j).symm)) hper
        obtain ⟨pb, o, rfl, hpI⟩ : ∃ pb o, po = some ⟨pb, o, none⟩ ∧ LiesI w pb o l := by
          rcases hp with rfl | ⟨pb, o, rfl, hp⟩
          · simp at hpl; omega
          · exact ⟨pb, o, rfl, hp⟩
        have hR1 := fun (W : World) (h : LiesO W (some ⟨bl, off, none⟩) L) (h2 : LiesOI W (some ⟨pb, o, none⟩) l) => run_st a b c bl off cap pb o pc pn N k L l _ W (lo_lies h) (lo_liesI h2) hs0 hN.symm (by omega) rfl
        have hV1 := fun (W : World) (g k' gm km : Nat) (h : Lies W g 0 (rn a b c (L, l) k).1) (h2 : LiesI W gm 0 (rn a b c (L, l) k).2) => reverse_st a b c g k' gm km pn _ _ _ W h h2 hs1 h48 rfl
        have hE1 := fun (W : World) (g k' gm km : Nat) (h : Lies W g 0 (rn a b c (L, l) k).1) (h2 : LiesI W gm 0 (rn a b c (L, l) k).2) => energy_st a b c g 0 k' gm 0 km pn N _ _ 1 _ W h h2 hs1 hN.symm (by omega) (by omega) rfl
        have hE2 := fun (W : World) (g k' gm km : Nat) (h : Lies W g 0 (rn a b c (L, l) k).1) (h2 : LiesI W gm 0 (Km.rvl (rn a b c (L, l) k).2)) => energy_st a b c g 0 k' gm 0 km pn N _ _ 1 _ W h h2 hs2 hN.symm (by omega) (by omega) (enr_rv hs1 1)
        have hR2 := fun (W : World) (g k' gm km : Nat) (h : Lies W g 0 (rn a b c (L, l) k).1) (h2 : LiesI W gm 0 (Km.rvl (rn a b c (L, l) k).2)) => run_st a b c g 0 k' gm 0 km pn N k _ _ (L, Km.rvl l) W h h2 hs2 hN.symm (by omega) hback
        have hE3 := fun (W : World) (h : LiesO W (some ⟨bl, off, none⟩) L) (h2 : LiesOI W (some ⟨pb, o, none⟩) l) => energy_st a b c bl off cap pb o pc pn N L l 1 _ W (lo_lies h) (lo_liesI h2) hs0 hN.symm (by omega) (by omega) rfl
        have hE4 := fun (W : World) (g k' gm km : Nat) (h : Lies W g 0 L) (h2 : LiesI W gm 0 (Km.rvl l)) => energy_st a b c g 0 k' gm 0 km pn N _ _ 1 _ W h h2 hs3 hN.symm (by omega) (by omega) (enr_rv hs0 1)
        have hV2 := fun (W : World) (g k' gm km : Nat) (h : Lies W g 0 L) (h2 : LiesI W gm 0 (Km.rvl l)) => reverse_st a b c g k' gm km pn _ _ l W h h2 hs3 h48 (Km.rvl_rvl hs0.k)
        have hS1 := fun (W : World) (g k' : Nat) (h : Lies W g 0 L) (h2 : LiesO W (some ⟨bl, off, none⟩) L) => same_ownT a b c g k' pn (some ⟨bl, off, none⟩) cap L W hLn h h2 (by omega)
        have hK1 : ∀ (W : World) (g k' : Nat), LiesI W g 0 l → LiesOI W (some ⟨pb, o, none⟩) l → Calls Try.prog 18 #[.slice (some ⟨g, 0, none⟩) pn k', .slice (some ⟨pb, o, none⟩) pn pc] W fun e w' => e = .returned (.bool true) ∧ Below W.heap.size W w' := fun W g k' h h2 => by
          have := sameK_any (some ⟨g, 0, none⟩) (some ⟨pb, o, none⟩) k' pc pn pn l l W (.inr ⟨g, 0, rfl, h⟩) h2 hpl hpl (by omega)
          rwa [decide_eq_true rfl] at this
        have hP1 := fun (W : World) (h : LiesO W (some ⟨bl, off, none⟩) L) (h2 : LiesOI W (some ⟨pb, o, none⟩) l) => period_st a b c bl off cap pb o pc pn N 20 t y L l W (lo_lies h) (lo_liesI h2) hs0 hN.symm (by omega) (by omega) hper
        have hP2 := fun (W : World) (g k' gm km : Nat) (h : Lies W g 0 (rn a b c (L, l) k).1) (h2 : LiesI W gm 0 (Km.rvl (rn a b c (L, l) k).2)) => period_st a b c g 0 k' gm 0 km pn N 20 t y _ _ W h h2 hs2 hN.symm (by omega) (by omega) hper2
        exact topTime_ok_acc a b c s k be 0 0 _ _ t _ _ _ _ _ y _ _ _ pn cap pc pn pn L _ _ _ l _ _ _ _ _ w hm hp (by omega) hwr turner_ex hLg hR1 hV1 hE1 hE2 hR2 hE3 hE4 hV2 hS1 hK1 hP1 hP2 hTr hM hR3 (tj_D s pn hs) hE5 hE6 (hA _ rfl) hS2t hS2f
      · have hR1b : ∀ W : World, LiesO W (some ⟨bl, off, none⟩) L → LiesOI W po l → Calls Try.prog 27 #[.agg #[.int .i64 a, .int .i64 b, .int .i64 c, .slice (some ⟨bl, off, none⟩) n cap], .slice po pn pc, .int .i64 k] W fun e w' => e = .returned (.tuple #[.agg #[.int .i64 0, .int .i64 0, .int .i64 0, .slice none 0 0], .slice none 0 0, .int .i64 r]) ∧ Below W.heap.size W w' := fun W h h2 => by
          have := run_bad a b c 0 r k r (some ⟨bl, off, none⟩) po cap pc pn L ns l W h h2 hpl hr hv (.inl ⟨h1, rfl⟩) (by omega)
          rwa [hLn] at this
        exact topTime_bad_acc a b c s k be r 0 0 0 0 _ _ _ _ _ true _ _ _ n cap pc pn n L [] _ _ l [] [] [] _ _ w hm hp (by omega) h1 hwr turner_ex hLg hR1b hTr hM hR3 (tj_D s n hs) hE5 hE6 (hA _ rfl) hS2t hS2f
    · have hT : ∃ q, trR r0 s x be q ∧ q ≠ 0 := by
        by_cases h0 : r0 = 0
        · exact ⟨1, .inr ⟨h0, fun h => h2 ⟨h0, h⟩, rfl⟩, by decide⟩
        · exact ⟨r0, .inl ⟨h0, rfl⟩, h0⟩
      obtain ⟨r2, hq, hr2⟩ := hT
      have hTrb := fun (W : World) (h : LiesO W ao L) => trajectory_bad a b c r0 s x be r2 ao cap L.length L ns W h hr rfl hL hq
      by_cases h1 : r = 0 ∧ 0 ≤ x
      · obtain ⟨rfl, hx0⟩ := h1
        obtain ⟨k, rfl⟩ := Int.eq_ofNat_of_zero_le hx0
        obtain rfl : r0 = 0 := by rcases hv with ⟨h1, h2⟩ | ⟨h1, -⟩ | ⟨h1, -⟩ <;> omega
        have hs0 := St_of hr hv hpl
        have hLn := hs0.e
        have h48 : pn ≤ 48 := by have := hs0.f.n; have := hs0.e; have := hs0.f.z.p; omega
        have hn0 : 0 < pn := by have := hs0.f.n; have := hs0.e; obtain ⟨-, -, p3, -⟩ := mul_rng hs0.f.z.a1 hs0.f.z.a4 hs0.f.z.b1 hs0.f.z.b4 hs0.f.z.c1 hs0.f.z.c4; omega
        obtain ⟨N, hN⟩ := Int.eq_ofNat_of_zero_le (show 0 ≤ a * b * c by obtain ⟨-, -, p3, -⟩ := mul_rng hs0.f.z.a1 hs0.f.z.a4 hs0.f.z.b1 hs0.f.z.b4 hs0.f.z.c1 hs0.f.z.c4; omega)
        obtain ⟨bl, off, rfl, hm2⟩ := fld_some (numsR_smR hr).1 hm
        have hs1 := hs0.rn k
        have hs2 := hs1.rv
        have hs3 := hs0.rv
        have hback := rn_back hs0 k
        obtain ⟨t, y, hper⟩ := perR_ex a b c (L, l) 20
        have hper2 : perR a b c ((rn a b c (L, l) k).1, Km.rvl (rn a b c (L, l) k).2) 20 t y := perR_cong (fun j => ((per_rn hs0 j k).symm.trans (per_rv hs1 j).symm)) hper
        obtain ⟨pb, o, rfl, hpI⟩ : ∃ pb o, po = some ⟨pb, o, none⟩ ∧ LiesI w pb o l := by
          rcases hp with rfl | ⟨pb, o, rfl, hp⟩
          · simp at hpl; omega
          · exact ⟨pb, o, rfl, hp⟩
        have hR1 := fun (W : World) (h : LiesO W (some ⟨bl, off, none⟩) L) (h2 : LiesOI W (some ⟨pb, o, none⟩) l) => run_st a b c bl off cap pb o pc pn N k L l _ W (lo_lies h) (lo_liesI h2) hs0 hN.symm (by omega) rfl
        have hV1 := fun (W : World) (g k' gm km : Nat) (h : Lies W g 0 (rn a b c (L, l) k).1) (h2 : LiesI W gm 0 (rn a b c (L, l) k).2) => reverse_st a b c g k' gm km pn _ _ _ W h h2 hs1 h48 rfl
        have hE1 := fun (W : World) (g k' gm km : Nat) (h : Lies W g 0 (rn a b c (L, l) k).1) (h2 : LiesI W gm 0 (rn a b c (L, l) k).2) => energy_st a b c g 0 k' gm 0 km pn N _ _ 1 _ W h h2 hs1 hN.symm (by omega) (by omega) rfl
        have hE2 := fun (W : World) (g k' gm km : Nat) (h : Lies W g 0 (rn a b c (L, l) k).1) (h2 : LiesI W gm 0 (Km.rvl (rn a b c (L, l) k).2)) => energy_st a b c g 0 k' gm 0 km pn N _ _ 1 _ W h h2 hs2 hN.symm (by omega) (by omega) (enr_rv hs1 1)
        have hR2 := fun (W : World) (g k' gm km : Nat) (h : Lies W g 0 (rn a b c (L, l) k).1) (h2 : LiesI W gm 0 (Km.rvl (rn a b c (L, l) k).2)) => run_st a b c g 0 k' gm 0 km pn N k _ _ (L, Km.rvl l) W h h2 hs2 hN.symm (by omega) hback
        have hE3 := fun (W : World) (h : LiesO W (some ⟨bl, off, none⟩) L) (h2 : LiesOI W (some ⟨pb, o, none⟩) l) => energy_st a b c bl off cap pb o pc pn N L l 1 _ W (lo_lies h) (lo_liesI h2) hs0 hN.symm (by omega) (by omega) rfl
        have hE4 := fun (W : World) (g k' gm km : Nat) (h : Lies W g 0 L) (h2 : LiesI W gm 0 (Km.rvl l)) => energy_st a b c g 0 k' gm 0 km pn N _ _ 1 _ W h h2 hs3 hN.symm (by omega) (by omega) (enr_rv hs0 1)
        have hV2 := fun (W : World) (g k' gm km : Nat) (h : Lies W g 0 L) (h2 : LiesI W gm 0 (Km.rvl l)) => reverse_st a b c g k' gm km pn _ _ l W h h2 hs3 h48 (Km.rvl_rvl hs0.k)
        have hS1 := fun (W : World) (g k' : Nat) (h : Lies W g 0 L) (h2 : LiesO W (some ⟨bl, off, none⟩) L) => same_ownT a b c g k' pn (some ⟨bl, off, none⟩) cap L W hLn h h2 (by omega)
        have hK1 : ∀ (W : World) (g k' : Nat), LiesI W g 0 l → LiesOI W (some ⟨pb, o, none⟩) l → Calls Try.prog 18 #[.slice (some ⟨g, 0, none⟩) pn k', .slice (some ⟨pb, o, none⟩) pn pc] W fun e w' => e = .returned (.bool true) ∧ Below W.heap.size W w' := fun W g k' h h2 => by
          have := sameK_any (some ⟨g, 0, none⟩) (some ⟨pb, o, none⟩) k' pc pn pn l l W (.inr ⟨g, 0, rfl, h⟩) h2 hpl hpl (by omega)
          rwa [decide_eq_true rfl] at this
        have hP1 := fun (W : World) (h : LiesO W (some ⟨bl, off, none⟩) L) (h2 : LiesOI W (some ⟨pb, o, none⟩) l) => period_st a b c bl off cap pb o pc pn N 20 t y L l W (lo_lies h) (lo_liesI h2) hs0 hN.symm (by omega) (by omega) hper
        have hP2 := fun (W : World) (g k' gm km : Nat) (h : Lies W g 0 (rn a b c (L, l) k).1) (h2 : LiesI W gm 0 (Km.rvl (rn a b c (L, l) k).2)) => period_st a b c g 0 k' gm 0 km pn N 20 t y _ _ W h h2 hs2 hN.symm (by omega) (by omega) hper2
        rw [hLn] at hLg hTrb ⊢
        exact topTime_ok_bad a b c s k be 0 r2 _ _ t 0 0 0 0 0 y true _ _ pn cap pc pn pn L _ [] [] l _ _ _ [] [] w hm hp (by omega) hr2 turner_ex hLg hR1 hV1 hE1 hE2 hR2 hE3 hE4 hV2 hS1 hK1 hP1 hP2 hTrb
      · have hq1 : ∃ q, rnR r x q ∧ q ≠ 0 := by
          by_cases h0 : r = 0
          · exact ⟨1, .inr ⟨h0, fun h => h1 ⟨h0, h.1⟩, rfl⟩, by decide⟩
          · exact ⟨r, .inl ⟨h0, rfl⟩, h0⟩
        obtain ⟨r1, hq1, hr1⟩ := hq1
        have hR1b := fun (W : World) (h : LiesO W ao L) (h2 : LiesOI W po l) => run_bad a b c r0 r x r1 ao po cap pc pn L ns l W h h2 hpl hr hv hq1 (by omega)
        exact topTime_bad_bad a b c s x be r1 r2 0 0 0 0 0 0 0 0 true true ao po L.length cap pc pn 0 L [] [] [] l [] [] [] [] [] w hm hp hx hr1 hr2 turner_ex hLg hR1b hTrb
  · exact topTime_out a b c s x be ao po L.length cap pc pn w (by omega)

/-! ### The statement of the law TopTime, out of its walk -/
set_option maxRecDepth 100000 in
theorem topTime_lifted (os : Os) (started : os.Started) (H : Type) (enc : TypeId × Value → H) :
    ReturnsInHanded {} Try.checked os 11 .any (Rows.topTimeSpec.pre6 enc Try.prog Try.f11 Rows.topTimeRow.domain false) (Rows.topTimeSpec.post enc Try.prog Try.f11 false true false false) := by
  refine returnsInHanded_of_change (C := Try.checked) own started (by kernel_rfl) Try.func11
    (ChangeSpec.witness6 (enc := enc) (C := Try.checked) false ⟨#[], #[.agg #[.int .i64 0, .int .i64 0, .int .i64 0, .slice none 0 0], .slice none 0 0, .agg #[.int .i64 0, .int .i64 0, .int .i64 0]], []⟩ 8 (by kernel_rfl) (by kernel_rfl) (by kernel_rfl) (by kernel_rfl)) ?_
  intro W base args ds gs before hval0 hW hcnd _
  have hval : ∀ (j : Nat) t v, Try.f11.params[j]? = some t → args[j]? = some v → Value.okWide Try.prog W .any base t v := hval0
  have hW' := hW
  obtain ⟨p, q, hA0, hV, rfl, hfz, hnd⟩ := hW
  have hA : DataW.TrodAll enc Try.prog W 0 (fun _ => true) true Try.f11.params.toList args.toList ds p := hA0
  rw [Try.params11] at hA hval
  obtain ⟨v0, vs0, d0, ds0, p0, q0, hargs, rfl, rfl, h0, r0⟩ := trodAll_cons hA
  obtain ⟨v1, vs1, d1, ds1, p1, q1, rfl, rfl, rfl, h1, r1⟩ := trodAll_cons r0
  obtain ⟨v2, vs2, d2, ds2, p2, q2, rfl, rfl, rfl, h2, r2⟩ := trodAll_cons r1
  obtain ⟨rfl, rfl, rfl⟩ := trodAll_nil r2
  obtain rfl : args = #[v0, v1, v2] := by cases args; simp_all
  obtain ⟨rfl, rfl⟩ := trodVars_none hV
  have k0 := h0
  have lt0 : ∀ x ∈ p0, x.block < W.heap.size := by obtain ⟨m, hm⟩ := k0; exact DataW.trod_lt m _ _ _ hm
  obtain ⟨x0, y0, z0, ao0, L0, cap0, rfl, hl0, hm0⟩ := open_field (hval 0 25 v0 rfl rfl) h0
  have k1 := h1
  have lt1 : ∀ x ∈ p1, x.block < W.heap.size := by obtain ⟨m, hm⟩ := k1; exact DataW.trod_lt m _ _ _ hm
  obtain ⟨po1, l1, n1, pc1, rfl, hkl1, hkn1, hkc1, hkm1, hkz1⟩ := open_kicks (hval 1 26 v1 rfl rfl) h1
  have k2 := h2
  have lt2 : ∀ x ∈ p2, x.block < W.heap.size := by obtain ⟨m, hm⟩ := k2; exact DataW.trod_lt m _ _ _ hm
  obtain ⟨x2, y2, z2, rfl⟩ := open_plan (hval 2 65 v2 rfl rfl) h2
  clear hA0 hval0
  refine (topTime_walk x0 y0 z0 ao0 L0 cap0 po1 l1 n1 pc1 x2 y2 z2 W hl0 hm0 hkl1 hkn1 hkc1 hkm1 hkz1).mono fun e W' ⟨he, bel⟩ => ?_
  subst he
  exact ⟨_, rfl, _, _, _, [], _, [], hW', trodAll_mk1 (shut_bool Try.underlying4 _), (trodAll_cons_mk (Below.trod laidOut (by kernel_rfl) (of_decide_eq_true (by kernel_rfl)) k0 bel lt0) (trodAll_cons_mk (Below.trod laidOut (by kernel_rfl) (of_decide_eq_true (by kernel_rfl)) k1 bel lt1) (trodAll_cons_mk (Below.trod laidOut (by kernel_rfl) (of_decide_eq_true (by kernel_rfl)) k2 bel lt2) trodAll_mk0))), rfl, bel.frame _, fun h => by cases h⟩

theorem topTime_jf9 : (Rows.topTimeRow.inPlace == Try.prog.inPlace 11) = true := by kernel_rfl
theorem topTime_jf10 : (Rows.topTimeRow.unfollowed == Try.prog.unfollowed 11) = true := by kernel_rfl
theorem topTime_jf11 : (Rows.topTimeRow.recurses == Try.prog.recurses 11) = true := by kernel_rfl
theorem topTime_jf12 : (Rows.topTimeRow.named == Try.prog.varsNamed 11) = true := by kernel_rfl
theorem topTime_facts : joinedFacts Try.prog 11 Try.f11 Rows.topTimeSpec Rows.topTimeRow = true := by
  unfold joinedFacts
  exact (band (band (band (band (band (band (band (band (band (band (band (band (band (band (band (band (band (band (band (band (band (band (band (band (band (band (band (band (band (band (band (by kernel_rfl) jf1) jf2) (by kernel_rfl)) (by kernel_rfl)) (by kernel_rfl)) jf6) (by kernel_rfl)) jf8) topTime_jf9) topTime_jf10) topTime_jf11) topTime_jf12) (by kernel_rfl)) (by kernel_rfl)) (by kernel_rfl)) (by kernel_rfl)) (by kernel_rfl)) (by kernel_rfl)) (by kernel_rfl)) (by kernel_rfl)) (by kernel_rfl)) (by kernel_rfl)) (by kernel_rfl)) jf24) jf25) jf26) jf27) (by kernel_rfl)) (by kernel_rfl)) (by kernel_rfl)) (by kernel_rfl))

theorem topTime_over : Rows.topTimeRow.holds Try.pinned (OpenSpec.ofChange Rows.topTimeSpec) :=
  OpenClaim.holds_of_wide 11 Try.f11 rfl rfl rfl rfl rfl rfl rfl ⟨rfl, rfl, rfl, rfl, rfl⟩ rfl rfl rfl rfl rfl (by kernel_rfl) Try.func11 topTime_facts
    (of_decide_eq_true (by kernel_rfl)) (by unfold Func.isWrapper; first | (rw [if_pos (by decide +kernel)]; kernel_rfl) | (rw [if_neg (by decide +kernel)]; exact ⟨rfl, rfl⟩))
    (fun os started H enc _ => topTime_lifted os started H enc)

theorem topTime_holds : Rows.TopTimeSaid := topTime_over
#print axioms topTime_holds

end Go.Proofs.Ytilbhcjnkmeecaa
