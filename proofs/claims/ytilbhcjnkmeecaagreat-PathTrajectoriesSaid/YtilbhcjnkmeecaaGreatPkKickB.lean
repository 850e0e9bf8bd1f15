/- Momenta that are drawn, and how two lists of momenta are compared.
Conditions: those written at each theorem. -/
import Derived.Test.YtilbhcjnkmeecaaGreatPkIBox
import Derived.Test.YtilbhcjnkmeecaaGreatPkKickA
import Derived.Test.YtilbhcjnkmeecaaGreatPkDrawO
import Derived.Test.YtilbhcjnkmeecaaGreatPkCold
import Derived.Test.YtilbhcjnkmeecaaGreatPkNumC
import Derived.Test.YtilbhcjnkmeecaaGreatPkCopyC
namespace Go.Proofs.YtilbhcjnkmeecaaGreat
set_option linter.unusedVariables false
set_option linter.unusedSimpArgs false
set_option maxRecDepth 1000000
open Go.RowKit
open Um Tm Cm Km

theorem alloc_at (w : World) (o : Obj) : (w.alloc o).heap[w.heap.size]? = some o := by show (w.heap.push o)[w.heap.size]? = some o; exact Array.getElem?_push_size
/-- three numbers further -/
theorem take3 {l : List Int} {k : Nat} (h : k * 3 + 2 < l.length) : l.take ((k + 1) * 3) = l.take (k * 3) ++ [l[k * 3]'(by omega), l[k * 3 + 1]'(by omega), l[k * 3 + 2]] := by
  rw [show (k + 1) * 3 = k * 3 + 3 by omega, List.take_add, List.drop_eq_getElem_cons (by omega : k * 3 < l.length), List.drop_eq_getElem_cons (by omega : k * 3 + 1 < l.length), List.drop_eq_getElem_cons h]
  rfl
theorem madeK (W : World) (n : Nat) (x : Int) (hx : x = n) (hn : n ≤ 1000000) : (Instr.makeSlice 26 (.int .i64 x) (.int .i64 x)).run Tryz.prog W = .ok (.slice (some ⟨W.heap.size, 0, none⟩) n n) (W.alloc (.cells (madeCells kz.toArray (n * 3)) 38)) := by
  obtain ⟨i0, hi, hz0, hz1, hz2⟩ := info_parts infoK
  have := run_make (P := Tryz.prog) W 26 38 i0 _ Tryz.underlying26 hi hz0 .i64 .i64 x x (by omega) (Int.le_refl _) (by rw [hz2]; omega) (by omega)
  rw [this, hz1, hx, Int.toNat_natCast]
  rfl
def RetM (m : Nat) (l : List Int) (n : Nat) (t : Int) (e : Ending) (w' : World) : Prop := ∃ g k : Nat, e = .returned (.tuple #[.slice (some ⟨g, 0, none⟩) n k, .int .i64 t, .int .i64 0]) ∧ LiesI w' g 0 l ∧ m ≤ g
set_option maxHeartbeats 3200000 in
theorem momenta_ok (a b c s : Int) (n : Nat) (w : World) (hz : Sz a b c) (hn : (n : Int) = 3 * (a * b * c)) (hs : IsSeed s) : Calls Tryz.prog 40 #[.agg #[.int .i64 a, .int .i64 b, .int .i64 c], .int .i64 s] w fun e w' => RetM w.heap.size (moms s (n * 3)) n (adm s (n * 3)) e w' ∧ Below w.heap.size w w' := by
  obtain ⟨-, -, p3, -⟩ := mul_rng hz.a1 hz.a4 hz.b1 hz.b4 hz.c1 hz.c4
  have p4 := hz.p
  have c1 := fun W : World => sites_any a b c (a * b * c) 0 W (.inr ⟨hz, rfl, rfl⟩)
  have HS := Lib.hid (fun k => adm_seed hs k)
  have HA := Lib.hid (fun k : Nat => (show adm s (k + 1) = adv (adm s k) from rfl))
  have HP := Lib.hid (fun k r => moms_set s k r)
  have HL := Lib.hid (moms_len s)
  have H0 := Lib.hid (show adm s 0 = s from rfl)
  have HM0 := Lib.hid (show moms s 0 = [] from rfl)
  have n48 : n ≤ 48 := by omega
  have mk := fun (W : World) => madeK W n (3 * (a * b * c)) hn.symm (by omega)
  generalize a * b * c = m at *
  have e1 : IntKind.i64.wrap (3 * m) = 3 * m := IntWalk.i64_in _ (by omega)
  clear hz hs
  go_enter Tryz.func40, Tryz.ntmps40
  go_wp2_with ((with_reducible refine (c1 _).mono ?_); rintro e w1 ⟨rfl, hw1⟩; have s1 := hw1.size; simp at s1)
  have k0 : IBox (w1.alloc (.cells (madeCells kz.toArray (n * 3)) 38)) w1.heap.size (List.replicate (n * 3) 0) := IBox.made (T := 38) (alloc_at _ _) (by simp)
  have b0 : Below w.heap.size w (w1.alloc (.cells (madeCells kz.toArray (n * 3)) 38)) := by repeat (first | (with_reducible exact Below.refl _ _) | (with_reducible refine Below.setCell ?_ ?_ _) | (with_reducible refine Below.drew ?_) | (with_reducible refine Below.alloc ?_ ?_ _) | (with_reducible refine Below.trans ?_ (Below.mono hw1 ?_)) | (with_reducible exact hw1.size) | omega | (simp <;> omega) | (simp <;> (have s := hw1.size; omega)) | (have s0 := hw1.size; (try simp at s0); (try simp); omega))
  have K0 := Lib.hid k0
  clear k0 hw1
  generalize w1.alloc (.cells (madeCells kz.toArray (n * 3)) 38) = W0 at *
  generalize w1.heap.size = g at *
  go_loopw [1, 10, 11, 12, 13, 14, 28, 31] (fun sv _ _ _ _ _ q _ wr => ∃ k : Nat, k ≤ n ∧ q = .int .i64 k ∧ sv = .int .i64 (adm s (k * 3)) ∧ Hid (IBox wr g (moms s (k * 3) ++ List.replicate ((n - k) * 3) 0)) ∧ Below w.heap.size w wr) (fun _ _ _ _ _ _ q _ _ => n - (intOf q).toNat)
  case atStart => exact ⟨0, by omega, rfl, by rw [Nat.zero_mul, H0.out], Lib.hid (by rw [Nat.zero_mul, HM0.out]; exact K0.out), b0⟩
  case round =>
    obtain ⟨k, hk, rfl, rfl, hbox, hb⟩ := hrel
    clear b0 K0
    by_cases hlt : k < n
    · have i1 : (k : Int) < (n : Int) := by omega
      have hg := hbox.out.lt
      have c1 := fun W => draw_any (adm s (k * 3)) 8 (dr s (k * 3)) (adm s (k * 3 + 1)) 0 W (.inl ⟨HS.out _, ⟨by omega, by omega⟩, rfl, HA.out _, rfl⟩)
      have c2 := fun W => draw_any (adm s (k * 3 + 1)) 8 (dr s (k * 3 + 1)) (adm s (k * 3 + 2)) 0 W (.inl ⟨HS.out _, ⟨by omega, by omega⟩, rfl, HA.out _, rfl⟩)
      have c3 := fun W => draw_any (adm s (k * 3 + 2)) 8 (dr s (k * 3 + 2)) (adm s ((k + 1) * 3)) 0 W (.inl ⟨HS.out _, ⟨by omega, by omega⟩, rfl, by rw [show (k + 1) * 3 = k * 3 + 2 + 1 by omega]; exact HA.out _, rfl⟩)
      have l0 := HL.out (k * 3)
      have q1 : (moms s (k * 3) ++ List.replicate ((n - k) * 3) 0).set (k * 3) (dr s (k * 3)) = moms s (k * 3 + 1) ++ List.replicate ((n - k) * 3 - 1) 0 := by
        rw [show (n - k) * 3 = (n - k) * 3 - 1 + 1 by omega]; exact HP.out _ _
      have q2 : (moms s (k * 3 + 1) ++ List.replicate ((n - k) * 3 - 1) 0).set (k * 3 + 1) (dr s (k * 3 + 1)) = moms s (k * 3 + 2) ++ List.replicate ((n - k) * 3 - 2) 0 := by
        rw [show (n - k) * 3 - 1 = (n - k) * 3 - 2 + 1 by omega]; exact HP.out _ _
      have q3 : (moms s (k * 3 + 2) ++ List.replicate ((n - k) * 3 - 2) 0).set (k * 3 + 2) (dr s (k * 3 + 2)) = moms s ((k + 1) * 3) ++ List.replicate ((n - (k + 1)) * 3) 0 := by
        rw [show (n - k) * 3 - 2 = (n - (k + 1)) * 3 + 1 by omega, show (k + 1) * 3 = k * 3 + 2 + 1 by omega]; exact HP.out _ _
      have n1 : k * 3 < (moms s (k * 3) ++ List.replicate ((n - k) * 3) 0).length := by rw [List.length_append, HL.out, List.length_replicate]; omega
      have n2 : k * 3 + 1 < (moms s (k * 3 + 1) ++ List.replicate ((n - k) * 3 - 1) 0).length := by rw [List.length_append, HL.out, List.length_replicate]; omega
      have n3 : k * 3 + 2 < (moms s (k * 3 + 2) ++ List.replicate ((n - k) * 3 - 2) 0).length := by rw [List.length_append, HL.out, List.length_replicate]; omega
      have Q1 := Lib.hid q1
      have Q2 := Lib.hid q2
      have Q3 := Lib.hid q3
      have N1 := Lib.hid n1
      have N2 := Lib.hid n2
      have N3 := Lib.hid n3
      clear q1 q2 q3 n1 n2 n3 l0
      generalize moms s (k * 3) ++ List.replicate ((n - k) * 3) 0 = L0 at *
      generalize moms s (k * 3 + 1) ++ List.replicate ((n - k) * 3 - 1) 0 = L1 at *
      generalize moms s (k * 3 + 2) ++ List.replicate ((n - k) * 3 - 2) 0 = L2 at *
      obtain ⟨L3, hL3⟩ : ∃ L, moms s ((k + 1) * 3) ++ List.replicate ((n - (k + 1)) * 3) 0 = L := ⟨_, rfl⟩
      have HL3 := Lib.hid hL3
      rw [hL3] at Q3
      clear hL3
      obtain ⟨t3, ht3⟩ : ∃ t, adm s ((k + 1) * 3) = t := ⟨_, rfl⟩
      rw [ht3] at c3
      have HT3 := Lib.hid ht3
      clear ht3
      generalize adm s (k * 3) = t0 at *
      generalize adm s (k * 3 + 1) = t1 at *
      generalize adm s (k * 3 + 2) = t2 at *
      generalize dr s (k * 3) = d0 at *
      generalize dr s (k * 3 + 1) = d1 at *
      generalize dr s (k * 3 + 2) = d2 at *
      go_wp2
      refine wp_loop_rounds 4 ?_
      rw [rounds_succ]
      go_wp2_with ((with_reducible refine (c1 _).mono ?_); clear c1; rintro e wa ⟨rfl, hwa⟩; have B1 := hbox.out.later hwa; have HB1 := Lib.hid B1; have x1 := B1.at (List.getElem?_eq_getElem N1.out); have f1 := B1.free; have g1 := B1.lt; clear B1)
      have B1 := HB1.out.put (k * 3) N1.out d0
      rw [Q1.out] at B1
      have HC1 := Lib.hid B1
      clear B1 x1 f1
      rw [rounds_succ]
      go_wp2_with ((with_reducible refine (c2 _).mono ?_); clear c2; rintro e wb ⟨rfl, hwb⟩; have B2 := HC1.out.later hwb; have HB2 := Lib.hid B2; have x2 := B2.at (List.getElem?_eq_getElem N2.out); have f2 := B2.free; have g2 := B2.lt; clear B2)
      have B2 := HB2.out.put (k * 3 + 1) N2.out d1
      rw [Q2.out] at B2
      have HC2 := Lib.hid B2
      clear B2 x2 f2
      rw [rounds_succ]
      go_wp2_with ((with_reducible refine (c3 _).mono ?_); clear c3; rintro e wc ⟨rfl, hwc⟩; have B3 := HC2.out.later hwc; have HB3 := Lib.hid B3; have x3 := B3.at (List.getElem?_eq_getElem N3.out); have f3 := B3.free; have g3 := B3.lt; clear B3)
      have B3 := HB3.out.put (k * 3 + 2) N3.out d2
      rw [Q3.out] at B3
      have HC3 := Lib.hid B3
      clear B3 x3 f3
      rw [rounds_succ]
      go_wp2
      exact ⟨⟨k + 1, by omega, by go_num, by rw [HT3.out], Lib.hid (by rw [HL3.out]; exact HC3.out), by repeat (first | (with_reducible exact Below.refl _ _) | (with_reducible refine Below.setCell ?_ ?_ _) | (with_reducible refine Below.drew ?_) | (with_reducible refine Below.alloc ?_ ?_ _) | (with_reducible refine Below.trans ?_ (Below.mono hwc ?_)) | (with_reducible refine Below.trans ?_ (Below.mono hwb ?_)) | (with_reducible refine Below.trans ?_ (Below.mono hwa ?_)) | (with_reducible refine Below.trans ?_ (Below.mono hb ?_)) | (with_reducible exact hwc.size) | (with_reducible exact hwb.size) | (with_reducible exact hwa.size) | (with_reducible exact hb.size) | omega | (simp <;> omega) | (simp <;> (have s := hwc.size; omega)) | (simp <;> (have s := hwb.size; omega)) | (simp <;> (have s := hwa.size; omega)) | (simp <;> (have s := hb.size; omega)) | (have s0 := hwc.size; (try simp at s0); have s1 := hwb.size; (try simp at s1); have s2 := hwa.size; (try simp at s2); have s3 := hb.size; (try simp at s3); (try simp); omega))⟩, by simp [intOf]; omega⟩
    · obtain rfl : k = n := by omega
      have hg := hbox.out.lt
      go_wp2
      go_ret3
      exact ⟨⟨g, k, rfl, by have := hbox.out.h; rwa [Nat.sub_self, Nat.zero_mul, List.replicate_zero, List.append_nil] at this, by omega⟩, hb⟩
set_option maxHeartbeats 1600000 in
theorem momenta_bad (a b c s : Int) (w : World) (h : ¬ Sz a b c ∨ (Sz a b c ∧ ¬ IsSeed s)) : Calls Tryz.prog 40 #[.agg #[.int .i64 a, .int .i64 b, .int .i64 c], .int .i64 s] w fun e w' => e = .returned (.tuple #[.slice none 0 0, .int .i64 0, .int .i64 1]) ∧ Below w.heap.size w w' := by
  rcases h with hz | ⟨hz, hs⟩
  · have c1 := fun W : World => sites_any a b c 0 1 W (.inl ⟨hz, rfl, rfl⟩)
    clear hz
    go_enter Tryz.func40, Tryz.ntmps40
    go_wp2_with ((with_reducible refine (c1 _).mono ?_); rintro e w1 ⟨rfl, hw1⟩)
    go_ret3
    exact ⟨rfl, by repeat (first | (with_reducible exact Below.refl _ _) | (with_reducible refine Below.setCell ?_ ?_ _) | (with_reducible refine Below.drew ?_) | (with_reducible refine Below.alloc ?_ ?_ _) | (with_reducible refine Below.trans ?_ (Below.mono hw1 ?_)) | (with_reducible exact hw1.size) | omega | (simp <;> omega) | (simp <;> (have s := hw1.size; omega)) | (have s0 := hw1.size; (try simp at s0); (try simp); omega))⟩
  · obtain ⟨n, hn, hn0, hn48⟩ := size_ex hz
    have c1 := fun W : World => sites_any a b c (a * b * c) 0 W (.inr ⟨hz, rfl, rfl⟩)
    have c2 := fun W => draw_any s 8 0 0 1 W (.inr (.inr ⟨hs, rfl, rfl, rfl⟩))
    obtain ⟨-, -, p3, -⟩ := mul_rng hz.a1 hz.a4 hz.b1 hz.b4 hz.c1 hz.c4
    have p4 := hz.p
    have mk := fun (W : World) => madeK W n (3 * (a * b * c)) hn.symm (by omega)
    generalize a * b * c = m at *
    have e1 : IntKind.i64.wrap (3 * m) = 3 * m := IntWalk.i64_in _ (by omega)
    have i1 : (0 : Int) < (n : Int) := by omega
    clear hz hs hn
    go_enter Tryz.func40, Tryz.ntmps40
    go_wp2_with ((with_reducible refine (c1 _).mono ?_); rintro e w1 ⟨rfl, hw1⟩)
    refine wp_loop_rounds 1 ?_
    rw [rounds_succ]
    go_wp2
    refine wp_loop_rounds 1 ?_
    rw [rounds_succ]
    go_wp2_with ((with_reducible refine (c2 _).mono ?_); clear c2; rintro e wa ⟨rfl, hwa⟩)
    go_ret3
    exact ⟨rfl, by repeat (first | (with_reducible exact Below.refl _ _) | (with_reducible refine Below.setCell ?_ ?_ _) | (with_reducible refine Below.drew ?_) | (with_reducible refine Below.alloc ?_ ?_ _) | (with_reducible refine Below.trans ?_ (Below.mono hwa ?_)) | (with_reducible refine Below.trans ?_ (Below.mono hw1 ?_)) | (with_reducible exact hwa.size) | (with_reducible exact hw1.size) | omega | (simp <;> omega) | (simp <;> (have s := hwa.size; omega)) | (simp <;> (have s := hw1.size; omega)) | (have s0 := hwa.size; (try simp at s0); have s1 := hw1.size; (try simp at s1); (try simp); omega))⟩
set_option maxHeartbeats 400000 in
theorem draw6_any (s n : Int) (w : World) (h : IsSeed s) (h1 : 1 ≤ n) (h2 : n ≤ 1099511627776) :
    Calls Tryz.prog 48 #[.int .i64 s, .int .i64 n] w fun e w' => e = .returned (.tuple #[.int .i64 (drw s n), .int .i64 (adv s)]) ∧ w = w' := by
  obtain ⟨b1, b2, b3, b4, b5, b6⟩ := draw_bnd h
  have E := Lib.hid (show ((nxt s - 1) * 2147483646 + (nxt (nxt s) - 1)) % n = drw s n from rfl)
  have A := Lib.hid (show nxt (nxt s) = adv s from rfl)
  have x1 : s * 48271 % 2147483647 = nxt s := rfl
  have x2 : nxt s * 48271 % 2147483647 = nxt (nxt s) := rfl
  obtain ⟨s1, s2⟩ := h
  generalize nxt (nxt s) = b at *
  generalize nxt s = a at *
  go_enter Tryz.func48, Tryz.ntmps48
  go_wp2
  go_ret2
  refine ⟨?_, rfl⟩
  show Ending.returned (.tuple #[.int .i64 (((a - 1) * 2147483646 + (b - 1)) % n), .int .i64 (a * 48271 % 2147483647)]) = _
  rw [x2, E.out, A.out]
set_option maxHeartbeats 3200000 in
theorem moms6_any (n : Nat) (s : Int) (w : World) (hs : IsSeed s) (hn0 : 0 < n) (hn : n ≤ 48) : Calls Tryz.prog 47 #[.int .i64 n, .int .i64 s] w fun e w' => (∃ g k : Nat, e = .returned (.tuple #[.slice (some ⟨g, 0, none⟩) n k, .int .i64 (adm s (n * 3))]) ∧ LiesI w' g 0 (moms s (n * 3)) ∧ w.heap.size ≤ g) ∧ Below w.heap.size w w' := by
  obtain ⟨i0, hi, hz0, hz1, hz2⟩ := info_parts infoK
  have HS := Lib.hid (fun k => adm_seed hs k)
  have HA := Lib.hid (fun k : Nat => (show adv (adm s k) = adm s (k + 1) from rfl))
  have HL := Lib.hid (moms_len s)
  have HM := Lib.hid (fun k : Nat => (show moms s (k + 1) = moms s k ++ [dr s k] from rfl))
  have H0 := Lib.hid (show adm s 0 = s from rfl)
  clear hs
  go_enter Tryz.func47, Tryz.ntmps47
  go_wp2
  go_loopw [1, 6, 7, 8, 9] (fun p f q _ _ wr => ∃ (k : Nat) (v : Value), k ≤ n ∧ q = .int .i64 k ∧ p = .int .i64 (adm s (k * 3)) ∧ v = f ∧ Hid (wr.ownsRow w.heap.size 38 3 v k ((moms s (k * 3)).map vi)) ∧ Below w.heap.size w wr) (fun _ _ q _ _ _ => n - (intOf q).toNat)
  case atStart => exact ⟨0, _, by omega, rfl, by rw [Nat.zero_mul, H0.out], rfl, Lib.hid (World.ownsRow_nil _ _ _ _), Below.refl _ _⟩
  case round =>
    obtain ⟨k, v, hk, rfl, rfl, rfl, hown, hb⟩ := hrel
    have hbs := hb.size
    by_cases hkn : k < n
    · have i1 : (k : Int) < (n : Int) := by omega
      have c1 := fun W => draw6_any (adm s (k * 3)) 8 W (HS.out _) (by omega) (by omega)
      have c2 := fun W => draw6_any (adm s (k * 3 + 1)) 8 W (HS.out _) (by omega) (by omega)
      have c3 := fun W => draw6_any (adm s (k * 3 + 2)) 8 W (HS.out _) (by omega) (by omega)
      rw [HA.out] at c1 c2 c3
      have hf : (moms s ((k + 1) * 3)).map vi = (moms s (k * 3)).map vi ++ [vi (dr s (k * 3)), vi (dr s (k * 3 + 1)), vi (dr s (k * 3 + 2))] := by
        rw [show (k + 1) * 3 = k * 3 + 2 + 1 by omega, HM.out, HM.out, HM.out]; simp
      have HF := Lib.hid hf
      obtain ⟨t3, ht3⟩ : ∃ t, adm s ((k + 1) * 3) = t := ⟨_, rfl⟩
      have e3 : adm s (k * 3 + 2 + 1) = t3 := by rw [← ht3]; congr 1; omega
      rw [e3] at c3
      have HT3 := Lib.hid ht3
      clear ht3 e3 hf
      have e0 : drw (adm s (k * 3)) 8 = dr s (k * 3) := rfl
      have e1 : drw (adm s (k * 3 + 1)) 8 = dr s (k * 3 + 1) := rfl
      have e2 : drw (adm s (k * 3 + 2)) 8 = dr s (k * 3 + 2) := rfl
      rw [e0] at c1
      rw [e1] at c2
      rw [e2] at c3
      clear e0 e1 e2
      generalize adm s (k * 3) = t0 at *
      generalize adm s (k * 3 + 1) = t1 at *
      generalize adm s (k * 3 + 2) = t2 at *
      generalize dr s (k * 3) = d0 at *
      generalize dr s (k * 3 + 1) = d1 at *
      generalize dr s (k * 3 + 2) = d2 at *
      go_wp2
      refine wp_loop_rounds 4 ?_
      rw [rounds_succ]
      go_wp2_with ((with_reducible refine (c1 _).mono ?_); clear c1; rintro e wa ⟨rfl, rfl⟩)
      rw [rounds_succ]
      go_wp2_with ((with_reducible refine (c2 _).mono ?_); clear c2; rintro e wa ⟨rfl, rfl⟩)
      rw [rounds_succ]
      go_wp2_with ((with_reducible refine (c3 _).mono ?_); clear c3; rintro e wa ⟨rfl, rfl⟩)
      rw [rounds_succ]
      go_wp2_with (at_builtin; refine wpList_append_own _ rfl (.tmp 26) (.tmp 28) 26 rfl w.heap.size 38 i0 _ 3 24 Tryz.underlying26 hi hz0 hz1 hz2 rfl (by decide) v k ((moms s (k * 3)).map vi) rfl ((hown.out.alloc _).alloc _) ⟨wr.heap.size + 1, 0, none⟩ 1 1 [vi d0, vi d1, vi d2] rfl rfl (three_news rfl (by simp [go_sem, vi]) (by simp [go_sem, vi]) (by simp [go_sem, vi])) (three_ones _ _ _) (by unfold maxLen; omega) (by omega) (by simp; omega) ?_; intro v' w4 hown4 hgrow4 _)
      have hfr := owned_from hown.out
      have b4 := ((hb.alloc (by omega) _).alloc (by simp; omega) _).grown hgrow4 (by simp; omega) (fun j hj => by have := hfr j hj; omega)
      have ho : w4.ownsRow w.heap.size 38 3 v' (k + 1) ((moms s ((k + 1) * 3)).map vi) := by rw [HF.out]; exact hown4
      clear hown4 hgrow4 hown
      go_wp2
      exact ⟨⟨k + 1, _, by omega, by go_num, by rw [HT3.out], rfl, Lib.hid ho, b4⟩, by simp [intOf]; omega⟩
    · obtain rfl : k = n := by omega
      obtain ⟨gv, cv, rfl, hgv, hli⟩ := owned_liesK hown.out hn0 (HL.out _)
      have HLI := Lib.hid hli
      clear hown hli
      go_wp2
      go_ret2
      exact ⟨⟨gv, cv, rfl, HLI.out, hgv⟩, hb⟩
set_option maxHeartbeats 400000 in
theorem isSeed6_any (s : Int) (w : World) (r : Bool) (h : (IsSeed s ∧ r = true) ∨ (¬ IsSeed s ∧ r = false)) :
    Calls Tryz.prog 46 #[.int .i64 s] w fun e w' => e = .returned (.bool r) ∧ w = w' := by
  have c1 := fun W : World => within6_any s 1 2147483646 W r (by
    rcases h with ⟨h, rfl⟩ | ⟨h, rfl⟩
    · exact .inl ⟨h.1, h.2, rfl⟩
    · exact .inr ⟨h, rfl⟩)
  clear h
  go_enter Tryz.func46, Tryz.ntmps46
  go_wp2_with ((with_reducible refine (c1 _).mono ?_); rintro e w1 ⟨rfl, rfl⟩)
  go_ret
  exact ⟨rfl, rfl⟩
end Go.Proofs.YtilbhcjnkmeecaaGreat

/- Fields that must be small, and their momenta, as the program and the document's answers find them valid.
Conditions: the lists lie in memory as it is written at each theorem. -/
namespace Go.Proofs.YtilbhcjnkmeecaaGreat
set_option linter.unusedVariables false
set_option linter.unusedSimpArgs false
set_option maxRecDepth 1000000
open Go.RowKit
open Um Tm Cm Km

theorem numsR_ex (a b c : Int) (L : List Q) : ∃ ns r, numsR a b c L ns r := by
  obtain ⟨r, hr⟩ := fldR_ex a b c L
  by_cases h0 : r = 0
  · subst h0
    obtain ⟨ns, q, hq⟩ := smR_ex L
    cases q with
    | true => exact ⟨ns, 0, .inr ⟨hr, .inl ⟨hq, rfl⟩⟩⟩
    | false => exact ⟨ns, 7, .inr ⟨hr, .inr ⟨hq, rfl⟩⟩⟩
  · exact ⟨[], r, .inl ⟨hr, h0, rfl⟩⟩
set_option maxHeartbeats 800000 in
theorem checkField_any (a b c r : Int) (ao : Option Addr) (cap : Nat) (L : List Q) (ns : List Int) (w : World) (h : LiesO w ao L) (hr : numsR a b c L ns r) (hlen : L.length ≤ 1000000) : Calls Tryz.prog 39 #[.agg #[.int .i64 a, .int .i64 b, .int .i64 c, .slice ao L.length cap]] w fun e w' => e = .returned (.int .i64 r) ∧ Below w.heap.size w w' := by
  have H := Lib.hid h
  rcases hr with ⟨hr, h0, rfl⟩ | ⟨hr, ⟨hq, rfl⟩ | ⟨hq, rfl⟩⟩
  · have c1 : ∀ W : World, LiesO W ao L → Calls Tryz.prog 69 #[.agg #[.int .i64 a, .int .i64 b, .int .i64 c, .slice ao L.length cap]] W fun e w' => e = .returned (.tuple #[.slice none 0 0, .int .i64 r]) ∧ Below W.heap.size W w' := fun W h => numbers_bad a b c r ao cap L W h hr h0 hlen
    clear h hr h0
    go_enter Tryz.func39, Tryz.ntmps39
    go_wp2_with ((with_reducible refine (c1 _ (H.out.later (by repeat (first | (with_reducible exact Below.refl _ _) | (with_reducible refine Below.setCell ?_ ?_ _) | (with_reducible refine Below.drew ?_) | (with_reducible refine Below.alloc ?_ ?_ _) | omega | (simp <;> omega))))).mono ?_); rintro e w1 ⟨rfl, hw1⟩)
    go_ret
    exact ⟨rfl, by repeat (first | (with_reducible exact Below.refl _ _) | (with_reducible refine Below.setCell ?_ ?_ _) | (with_reducible refine Below.drew ?_) | (with_reducible refine Below.alloc ?_ ?_ _) | (with_reducible refine Below.trans ?_ (Below.mono hw1 ?_)) | (with_reducible exact hw1.size) | omega | (simp <;> omega) | (simp <;> (have s := hw1.size; omega)) | (have s0 := hw1.size; (try simp at s0); (try simp); omega))⟩
  · have c1 : ∀ W : World, LiesO W ao L → Calls Tryz.prog 69 #[.agg #[.int .i64 a, .int .i64 b, .int .i64 c, .slice ao L.length cap]] W fun e w' => ∃ (a2 : Option Addr) (k : Nat), e = .returned (.tuple #[.slice a2 ns.length k, .int .i64 0]) ∧ Below W.heap.size W w' := fun W h => (numbers_ok a b c ao cap L ns true W h hr hq).mono fun e w' ⟨hh, hb⟩ => by
      rcases hh with ⟨-, a2, k, he, -⟩ | ⟨hf, -⟩
      · exact ⟨a2, k, he, hb⟩
      · cases hf
    clear h hr hq
    go_enter Tryz.func39, Tryz.ntmps39
    go_wp2_with ((with_reducible refine (c1 _ (H.out.later (by repeat (first | (with_reducible exact Below.refl _ _) | (with_reducible refine Below.setCell ?_ ?_ _) | (with_reducible refine Below.drew ?_) | (with_reducible refine Below.alloc ?_ ?_ _) | omega | (simp <;> omega))))).mono ?_); rintro e w1 ⟨a2, k, rfl, hw1⟩)
    go_ret
    exact ⟨rfl, by repeat (first | (with_reducible exact Below.refl _ _) | (with_reducible refine Below.setCell ?_ ?_ _) | (with_reducible refine Below.drew ?_) | (with_reducible refine Below.alloc ?_ ?_ _) | (with_reducible refine Below.trans ?_ (Below.mono hw1 ?_)) | (with_reducible exact hw1.size) | omega | (simp <;> omega) | (simp <;> (have s := hw1.size; omega)) | (have s0 := hw1.size; (try simp at s0); (try simp); omega))⟩
  · have c1 : ∀ W : World, LiesO W ao L → Calls Tryz.prog 69 #[.agg #[.int .i64 a, .int .i64 b, .int .i64 c, .slice ao L.length cap]] W fun e w' => e = .returned (.tuple #[.slice none 0 0, .int .i64 7]) ∧ Below W.heap.size W w' := fun W h => (numbers_ok a b c ao cap L ns false W h hr hq).mono fun e w' ⟨hh, hb⟩ => by
      rcases hh with ⟨hf, -⟩ | ⟨-, he⟩
      · cases hf
      · exact ⟨he, hb⟩
    clear h hr hq
    go_enter Tryz.func39, Tryz.ntmps39
    go_wp2_with ((with_reducible refine (c1 _ (H.out.later (by repeat (first | (with_reducible exact Below.refl _ _) | (with_reducible refine Below.setCell ?_ ?_ _) | (with_reducible refine Below.drew ?_) | (with_reducible refine Below.alloc ?_ ?_ _) | omega | (simp <;> omega))))).mono ?_); rintro e w1 ⟨rfl, hw1⟩)
    go_ret
    exact ⟨rfl, by repeat (first | (with_reducible exact Below.refl _ _) | (with_reducible refine Below.setCell ?_ ?_ _) | (with_reducible refine Below.drew ?_) | (with_reducible refine Below.alloc ?_ ?_ _) | (with_reducible refine Below.trans ?_ (Below.mono hw1 ?_)) | (with_reducible exact hw1.size) | omega | (simp <;> omega) | (simp <;> (have s := hw1.size; omega)) | (have s0 := hw1.size; (try simp at s0); (try simp); omega))⟩
set_option maxHeartbeats 800000 in
theorem small6_any (a b c r : Int) (ao : Option Addr) (cap : Nat) (L : List Q) (ns : List Int) (w : World) (h : LiesO w ao L) (hr : numsR a b c L ns r) (hlen : L.length ≤ 1000000) : Calls Tryz.prog 45 #[.agg #[.int .i64 a, .int .i64 b, .int .i64 c, .slice ao L.length cap]] w fun e w' => e = .returned (.int .i64 r) ∧ Below w.heap.size w w' := by
  have H := Lib.hid h
  rcases hr with ⟨hr, h0, rfl⟩ | ⟨hr, ⟨hq, rfl⟩ | ⟨hq, rfl⟩⟩
  · have c1 : ∀ W : World, LiesO W ao L → Calls Tryz.prog 74 #[.agg #[.int .i64 a, .int .i64 b, .int .i64 c, .slice ao L.length cap]] W fun e w' => e = .returned (.int .i64 r) ∧ Below W.heap.size W w' := fun W h => refValidateF_any a b c r ao cap L W h hr hlen
    have h0' : (r != 0) = true := by simpa using h0
    clear h hr h0
    go_enter Tryz.func45, Tryz.ntmps45
    go_wp2_with ((with_reducible refine (c1 _ (H.out.later (by repeat (first | (with_reducible exact Below.refl _ _) | (with_reducible refine Below.setCell ?_ ?_ _) | (with_reducible refine Below.drew ?_) | (with_reducible refine Below.alloc ?_ ?_ _) | omega | (simp <;> omega))))).mono ?_); rintro e w1 ⟨rfl, hw1⟩)
    go_ret
    exact ⟨rfl, by repeat (first | (with_reducible exact Below.refl _ _) | (with_reducible refine Below.setCell ?_ ?_ _) | (with_reducible refine Below.drew ?_) | (with_reducible refine Below.alloc ?_ ?_ _) | (with_reducible refine Below.trans ?_ (Below.mono hw1 ?_)) | (with_reducible exact hw1.size) | omega | (simp <;> omega) | (simp <;> (have s := hw1.size; omega)) | (have s0 := hw1.size; (try simp at s0); (try simp); omega))⟩
  · have c1 : ∀ W : World, LiesO W ao L → Calls Tryz.prog 74 #[.agg #[.int .i64 a, .int .i64 b, .int .i64 c, .slice ao L.length cap]] W fun e w' => e = .returned (.int .i64 0) ∧ Below W.heap.size W w' := fun W h => refValidateF_any a b c 0 ao cap L W h hr hlen
    have c2 : ∀ W : World, LiesO W ao L → Calls Tryz.prog 75 #[.agg #[.int .i64 a, .int .i64 b, .int .i64 c, .slice ao L.length cap]] W fun e w' => ∃ (a2 : Option Addr) (k : Nat), e = .returned (.tuple #[.slice a2 ns.length k, .bool true]) ∧ Below W.heap.size W w' := fun W h => (letters_ok a b c ao cap L ns true W h hr hq).mono fun e w' ⟨hh, hb⟩ => by
      rcases hh with ⟨-, a2, k, he, -⟩ | ⟨hf, -⟩
      · exact ⟨a2, k, he, hb⟩
      · cases hf
    clear h hr hq
    go_enter Tryz.func45, Tryz.ntmps45
    go_wp2_with (first | ((with_reducible refine (c1 _ (H.out.later (by repeat (first | (with_reducible exact Below.refl _ _) | (with_reducible refine Below.setCell ?_ ?_ _) | (with_reducible refine Below.drew ?_) | (with_reducible refine Below.alloc ?_ ?_ _) | omega | (simp <;> omega))))).mono ?_); rintro e w1 ⟨rfl, hw1⟩; have hc1 := Tail.cells hw1; have zw10 := Nat.lt_of_lt_of_le (n := w.heap.size) (by simp <;> omega) hw1.size) | ((with_reducible refine (c2 _ (H.out.later (by repeat (first | (with_reducible exact Below.refl _ _) | (with_reducible refine Below.setCell ?_ ?_ _) | (with_reducible refine Below.drew ?_) | (with_reducible refine Below.alloc ?_ ?_ _) | (with_reducible refine Below.trans ?_ (Below.mono hw1 ?_)) | (with_reducible exact hw1.size) | omega | (simp <;> omega) | (simp <;> (have s := hw1.size; omega)) | (have s0 := hw1.size; (try simp at s0); (try simp); omega))))).mono ?_); rintro e w2 ⟨a2, k, rfl, hw2⟩))
    go_ret
    exact ⟨rfl, by repeat (first | (with_reducible exact Below.refl _ _) | (with_reducible refine Below.setCell ?_ ?_ _) | (with_reducible refine Below.drew ?_) | (with_reducible refine Below.alloc ?_ ?_ _) | (with_reducible refine Below.trans ?_ (Below.mono hw2 ?_)) | (with_reducible refine Below.trans ?_ (Below.mono hw1 ?_)) | (with_reducible exact hw2.size) | (with_reducible exact hw1.size) | omega | (simp <;> omega) | (simp <;> (have s := hw2.size; omega)) | (simp <;> (have s := hw1.size; omega)) | (have s0 := hw2.size; (try simp at s0); have s1 := hw1.size; (try simp at s1); (try simp); omega))⟩
  · have c1 : ∀ W : World, LiesO W ao L → Calls Tryz.prog 74 #[.agg #[.int .i64 a, .int .i64 b, .int .i64 c, .slice ao L.length cap]] W fun e w' => e = .returned (.int .i64 0) ∧ Below W.heap.size W w' := fun W h => refValidateF_any a b c 0 ao cap L W h hr hlen
    have c2 : ∀ W : World, LiesO W ao L → Calls Tryz.prog 75 #[.agg #[.int .i64 a, .int .i64 b, .int .i64 c, .slice ao L.length cap]] W fun e w' => e = .returned (.tuple #[.slice none 0 0, .bool false]) ∧ Below W.heap.size W w' := fun W h => (letters_ok a b c ao cap L ns false W h hr hq).mono fun e w' ⟨hh, hb⟩ => by
      rcases hh with ⟨hf, -⟩ | ⟨-, he⟩
      · cases hf
      · exact ⟨he, hb⟩
    clear h hr hq
    go_enter Tryz.func45, Tryz.ntmps45
    go_wp2_with (first | ((with_reducible refine (c1 _ (H.out.later (by repeat (first | (with_reducible exact Below.refl _ _) | (with_reducible refine Below.setCell ?_ ?_ _) | (with_reducible refine Below.drew ?_) | (with_reducible refine Below.alloc ?_ ?_ _) | omega | (simp <;> omega))))).mono ?_); rintro e w1 ⟨rfl, hw1⟩; have hc1 := Tail.cells hw1; have zw10 := Nat.lt_of_lt_of_le (n := w.heap.size) (by simp <;> omega) hw1.size) | ((with_reducible refine (c2 _ (H.out.later (by repeat (first | (with_reducible exact Below.refl _ _) | (with_reducible refine Below.setCell ?_ ?_ _) | (with_reducible refine Below.drew ?_) | (with_reducible refine Below.alloc ?_ ?_ _) | (with_reducible refine Below.trans ?_ (Below.mono hw1 ?_)) | (with_reducible exact hw1.size) | omega | (simp <;> omega) | (simp <;> (have s := hw1.size; omega)) | (have s0 := hw1.size; (try simp at s0); (try simp); omega))))).mono ?_); rintro e w2 ⟨rfl, hw2⟩))
    go_ret
    exact ⟨rfl, by repeat (first | (with_reducible exact Below.refl _ _) | (with_reducible refine Below.setCell ?_ ?_ _) | (with_reducible refine Below.drew ?_) | (with_reducible refine Below.alloc ?_ ?_ _) | (with_reducible refine Below.trans ?_ (Below.mono hw2 ?_)) | (with_reducible refine Below.trans ?_ (Below.mono hw1 ?_)) | (with_reducible exact hw2.size) | (with_reducible exact hw1.size) | omega | (simp <;> omega) | (simp <;> (have s := hw2.size; omega)) | (simp <;> (have s := hw1.size; omega)) | (have s0 := hw2.size; (try simp at s0); have s1 := hw1.size; (try simp at s1); (try simp); omega))⟩
/-- all numbers of momenta are in range -/
def AllN (l : List Int) : Prop := ∀ (i : Nat) (x : Int), l[i]? = some x → IsN x
/-- the error of a field and its momenta, n momenta with the numbers l -/
def vkR (m n : Nat) (l : List Int) (r0 r : Int) : Prop := (r0 ≠ 0 ∧ r = r0) ∨ (r0 = 0 ∧ n ≠ m ∧ r = 1) ∨ (r0 = 0 ∧ n = m ∧ ((AllN l ∧ r = 0) ∨ (¬ AllN l ∧ r = 1)))
theorem alln_next {l : List Int} {k : Nat} (h : ∀ (i : Nat) (x : Int), i < k * 3 → l[i]? = some x → IsN x) (h2 : k * 3 + 2 < l.length) (hk : IsK ⟨l[k * 3]'(by omega), l[k * 3 + 1]'(by omega), l[k * 3 + 2]⟩) : ∀ (i : Nat) (x : Int), i < (k + 1) * 3 → l[i]? = some x → IsN x := fun i x hi hx => by
  by_cases h1 : i < k * 3
  · exact h i x h1 hx
  · have : i = k * 3 ∨ i = k * 3 + 1 ∨ i = k * 3 + 2 := by omega
    obtain ⟨ha, hb, hc⟩ := hk
    rcases this with rfl | rfl | rfl
    · rw [List.getElem?_eq_getElem (by omega), Option.some.injEq] at hx; rw [← hx]; exact ha
    · rw [List.getElem?_eq_getElem (by omega), Option.some.injEq] at hx; rw [← hx]; exact hb
    · rw [List.getElem?_eq_getElem h2, Option.some.injEq] at hx; rw [← hx]; exact hc
theorem alln_bad {l : List Int} {k : Nat} (h2 : k * 3 + 2 < l.length) (hk : ¬ IsK ⟨l[k * 3]'(by omega), l[k * 3 + 1]'(by omega), l[k * 3 + 2]⟩) : ¬ AllN l := fun h =>
  hk ⟨h _ _ (List.getElem?_eq_getElem (by omega)), h _ _ (List.getElem?_eq_getElem (by omega)), h _ _ (List.getElem?_eq_getElem h2)⟩
set_option maxHeartbeats 1600000 in
theorem validateK_any (a b c r0 r : Int) (ao po : Option Addr) (cap pc n : Nat) (L : List Q) (ns l : List Int) (w : World) (h : LiesO w ao L) (hp : LiesOI w po l) (hl : l.length = n * 3) (hr : numsR a b c L ns r0) (hv : vkR L.length n l r0 r) (hlen : L.length ≤ 1000000) : Calls Tryz.prog 58 #[.agg #[.int .i64 a, .int .i64 b, .int .i64 c, .slice ao L.length cap], .slice po n pc] w fun e w' => e = .returned (.int .i64 r) ∧ Below w.heap.size w w' := by
  have H := Lib.hid h
  have HP := Lib.hid hp
  have HL := Lib.hid hl
  have c1 : ∀ W : World, LiesO W ao L → Calls Tryz.prog 39 #[.agg #[.int .i64 a, .int .i64 b, .int .i64 c, .slice ao L.length cap]] W fun e w' => e = .returned (.int .i64 r0) ∧ Below W.heap.size W w' := fun W h => checkField_any a b c r0 ao cap L ns W h hr hlen
  rcases hv with ⟨h0, rfl⟩ | ⟨rfl, h1, rfl⟩ | ⟨rfl, rfl, hv⟩
  · have h0' : (r != 0) = true := by simpa using h0
    clear h hp hr h0 hl
    go_enter Tryz.func58, Tryz.ntmps58
    go_wp2_with ((with_reducible refine (c1 _ (H.out.later (by repeat (first | (with_reducible exact Below.refl _ _) | (with_reducible refine Below.setCell ?_ ?_ _) | (with_reducible refine Below.drew ?_) | (with_reducible refine Below.alloc ?_ ?_ _) | omega | (simp <;> omega))))).mono ?_); rintro e w1 ⟨rfl, hw1⟩)
    go_ret
    exact ⟨rfl, by repeat (first | (with_reducible exact Below.refl _ _) | (with_reducible refine Below.setCell ?_ ?_ _) | (with_reducible refine Below.drew ?_) | (with_reducible refine Below.alloc ?_ ?_ _) | (with_reducible refine Below.trans ?_ (Below.mono hw1 ?_)) | (with_reducible exact hw1.size) | omega | (simp <;> omega) | (simp <;> (have s := hw1.size; omega)) | (have s0 := hw1.size; (try simp at s0); (try simp); omega))⟩
  · have h1' : ((n : Int) != (L.length : Int)) = true := by simp; omega
    clear h hp hr hl
    go_enter Tryz.func58, Tryz.ntmps58
    go_wp2_with ((with_reducible refine (c1 _ (H.out.later (by repeat (first | (with_reducible exact Below.refl _ _) | (with_reducible refine Below.setCell ?_ ?_ _) | (with_reducible refine Below.drew ?_) | (with_reducible refine Below.alloc ?_ ?_ _) | omega | (simp <;> omega))))).mono ?_); rintro e w1 ⟨rfl, hw1⟩; have hc1 := Tail.cells hw1; have zw10 := Nat.lt_of_lt_of_le (n := w.heap.size) (by simp <;> omega) hw1.size)
    go_ret
    exact ⟨rfl, by repeat (first | (with_reducible exact Below.refl _ _) | (with_reducible refine Below.setCell ?_ ?_ _) | (with_reducible refine Below.drew ?_) | (with_reducible refine Below.alloc ?_ ?_ _) | (with_reducible refine Below.trans ?_ (Below.mono hw1 ?_)) | (with_reducible exact hw1.size) | omega | (simp <;> omega) | (simp <;> (have s := hw1.size; omega)) | (have s0 := hw1.size; (try simp at s0); (try simp); omega))⟩
  · have h1' : ((L.length : Int) != (L.length : Int)) = false := by simp
    have hy := fun (k : Kk) (hk : IsK k) (W : World) => isKick_any k W true (decide_eq_true hk).symm
    have hno := fun (k : Kk) (hk : ¬ IsK k) (W : World) => isKick_any k W false (decide_eq_false hk).symm
    have HV := Lib.hid hv
    clear h hp hr hl hv
    go_enter Tryz.func58, Tryz.ntmps58
    go_wp2_with ((with_reducible refine (c1 _ (H.out.later (by repeat (first | (with_reducible exact Below.refl _ _) | (with_reducible refine Below.setCell ?_ ?_ _) | (with_reducible refine Below.drew ?_) | (with_reducible refine Below.alloc ?_ ?_ _) | omega | (simp <;> omega))))).mono ?_); rintro e w1 ⟨rfl, hw1⟩; have hc1 := Tail.cells hw1; have zw10 := Nat.lt_of_lt_of_le (n := w.heap.size) (by simp <;> omega) hw1.size)
    have hB : Below w.heap.size w w1 := by repeat (first | (with_reducible exact Below.refl _ _) | (with_reducible refine Below.setCell ?_ ?_ _) | (with_reducible refine Below.drew ?_) | (with_reducible refine Below.alloc ?_ ?_ _) | (with_reducible refine Below.trans ?_ (Below.mono hw1 ?_)) | (with_reducible exact hw1.size) | omega | (simp <;> omega) | (simp <;> (have s := hw1.size; omega)) | (have s0 := hw1.size; (try simp at s0); (try simp); omega))
    clear hw1 hc1 zw10 c1
    go_loopw [7, 21] (fun _ q wr => ∃ k : Nat, k ≤ L.length ∧ q = .int .i64 k ∧ Hid (∀ (i : Nat) (x : Int), i < k * 3 → l[i]? = some x → IsN x) ∧ Below w.heap.size w wr) (fun _ q _ => L.length - (intOf q).toNat)
    case atStart => exact ⟨0, by omega, rfl, Lib.hid (by omega), hB⟩
    case round =>
      obtain ⟨k, hk, rfl, hall, hb⟩ := hrel
      clear hB
      by_cases hlt : k < L.length
      · have i2 : k * 3 + 2 < l.length := by have := HL.out; omega
        obtain ⟨pb, po2, rfl, hpl⟩ : ∃ b off, po = some ⟨b, off, none⟩ ∧ LiesI w b off l := by
          rcases HP.out with h | h
          · rw [h] at i2; simp at i2
          · exact h
        have x0 := hpl.later hb (k * 3) _ (List.getElem?_eq_getElem (by omega))
        have x1 := hpl.later hb (k * 3 + 1) _ (List.getElem?_eq_getElem (by omega))
        have x2 := hpl.later hb (k * 3 + 2) _ (List.getElem?_eq_getElem i2)
        have hn := alln_next hall.out i2
        have hbad := alln_bad i2
        have hbs := hb.size
        have i1 : (k : Int) < (L.length : Int) := by omega
        simp only [← Nat.add_assoc] at x1 x2
        by_cases hk1 : IsK ⟨l[k * 3]'(by omega), l[k * 3 + 1]'(by omega), l[k * 3 + 2]⟩
        · have HN := Lib.hid (hn hk1)
          have c2 := hy _ hk1
          clear hn hbad hk1 hpl hy hno hall
          generalize l[k * 3]'(by omega) = p0 at *
          generalize l[k * 3 + 1]'(by omega) = p1 at *
          generalize l[k * 3 + 2] = p2 at *
          clear i2
          go_wp2_with ((with_reducible refine (c2 _).mono ?_); rintro e w2 ⟨rfl, hw2⟩)
          exact ⟨⟨k + 1, by omega, by go_num, Lib.hid HN.out, by repeat (first | (with_reducible exact Below.refl _ _) | (with_reducible refine Below.setCell ?_ ?_ _) | (with_reducible refine Below.drew ?_) | (with_reducible refine Below.alloc ?_ ?_ _) | (with_reducible refine Below.trans ?_ (Below.mono hw2 ?_)) | (with_reducible refine Below.trans ?_ (Below.mono hb ?_)) | (with_reducible exact hw2.size) | (with_reducible exact hb.size) | omega | (simp <;> omega) | (simp <;> (have s := hw2.size; omega)) | (simp <;> (have s := hb.size; omega)) | (have s0 := hw2.size; (try simp at s0); have s1 := hb.size; (try simp at s1); (try simp); omega))⟩, by simp [intOf]; omega⟩
        · have HN := Lib.hid (hbad hk1)
          have c2 := hno _ hk1
          clear hn hbad hk1 hpl hy hno hall
          generalize l[k * 3]'(by omega) = p0 at *
          generalize l[k * 3 + 1]'(by omega) = p1 at *
          generalize l[k * 3 + 2] = p2 at *
          clear i2
          obtain rfl : r = 1 := by
            rcases HV.out with ⟨h, -⟩ | ⟨-, h⟩
            · exact absurd h HN.out
            · exact h
          go_wp2_with ((with_reducible refine (c2 _).mono ?_); rintro e w2 ⟨rfl, hw2⟩)
          go_ret
          exact ⟨rfl, by repeat (first | (with_reducible exact Below.refl _ _) | (with_reducible refine Below.setCell ?_ ?_ _) | (with_reducible refine Below.drew ?_) | (with_reducible refine Below.alloc ?_ ?_ _) | (with_reducible refine Below.trans ?_ (Below.mono hw2 ?_)) | (with_reducible refine Below.trans ?_ (Below.mono hb ?_)) | (with_reducible exact hw2.size) | (with_reducible exact hb.size) | omega | (simp <;> omega) | (simp <;> (have s := hw2.size; omega)) | (simp <;> (have s := hb.size; omega)) | (have s0 := hw2.size; (try simp at s0); have s1 := hb.size; (try simp at s1); (try simp); omega))⟩
      · obtain rfl : k = L.length := by omega
        obtain rfl : r = 0 := by
          rcases HV.out with ⟨-, h⟩ | ⟨h, -⟩
          · exact h
          · exact absurd (fun i x hx => hall.out i x (by have := (List.getElem?_eq_some_iff.1 hx).1; have := HL.out; omega) hx) h
        go_wp2
        go_ret
        exact ⟨rfl, hb⟩
end Go.Proofs.YtilbhcjnkmeecaaGreat

/- Momenta by the document, and the opposite momenta, as the program and the document's answers make them.
Conditions: the lists lie in memory as it is written at each theorem. -/
namespace Go.Proofs.YtilbhcjnkmeecaaGreat
set_option linter.unusedVariables false
set_option linter.unusedSimpArgs false
set_option maxRecDepth 1000000
open Go.RowKit
open Um Tm Cm Km

set_option maxHeartbeats 1600000 in
theorem refValidateK_any (a b c r0 r : Int) (ao po : Option Addr) (cap pc n : Nat) (L : List Q) (ns l : List Int) (w : World) (h : LiesO w ao L) (hp : LiesOI w po l) (hl : l.length = n * 3) (hr : numsR a b c L ns r0) (hv : vkR L.length n l r0 r) (hlen : L.length ≤ 1000000) : Calls Tryz.prog 31 #[.agg #[.int .i64 a, .int .i64 b, .int .i64 c, .slice ao L.length cap], .slice po n pc] w fun e w' => e = .returned (.int .i64 r) ∧ Below w.heap.size w w' := by
  have H := Lib.hid h
  have HP := Lib.hid hp
  have HL := Lib.hid hl
  have c1 : ∀ W : World, LiesO W ao L → Calls Tryz.prog 45 #[.agg #[.int .i64 a, .int .i64 b, .int .i64 c, .slice ao L.length cap]] W fun e w' => e = .returned (.int .i64 r0) ∧ Below W.heap.size W w' := fun W h => small6_any a b c r0 ao cap L ns W h hr hlen
  rcases hv with ⟨h0, rfl⟩ | ⟨rfl, h1, rfl⟩ | ⟨rfl, rfl, hv⟩
  · have h0' : (r != 0) = true := by simpa using h0
    clear h hp hr h0 hl
    go_enter Tryz.func31, Tryz.ntmps31
    go_wp2_with ((with_reducible refine (c1 _ (H.out.later (by repeat (first | (with_reducible exact Below.refl _ _) | (with_reducible refine Below.setCell ?_ ?_ _) | (with_reducible refine Below.drew ?_) | (with_reducible refine Below.alloc ?_ ?_ _) | omega | (simp <;> omega))))).mono ?_); rintro e w1 ⟨rfl, hw1⟩)
    go_ret
    exact ⟨rfl, by repeat (first | (with_reducible exact Below.refl _ _) | (with_reducible refine Below.setCell ?_ ?_ _) | (with_reducible refine Below.drew ?_) | (with_reducible refine Below.alloc ?_ ?_ _) | (with_reducible refine Below.trans ?_ (Below.mono hw1 ?_)) | (with_reducible exact hw1.size) | omega | (simp <;> omega) | (simp <;> (have s := hw1.size; omega)) | (have s0 := hw1.size; (try simp at s0); (try simp); omega))⟩
  · have h1' : ((n : Int) != (L.length : Int)) = true := by simp; omega
    clear h hp hr hl
    go_enter Tryz.func31, Tryz.ntmps31
    go_wp2_with ((with_reducible refine (c1 _ (H.out.later (by repeat (first | (with_reducible exact Below.refl _ _) | (with_reducible refine Below.setCell ?_ ?_ _) | (with_reducible refine Below.drew ?_) | (with_reducible refine Below.alloc ?_ ?_ _) | omega | (simp <;> omega))))).mono ?_); rintro e w1 ⟨rfl, hw1⟩; have hc1 := Tail.cells hw1; have zw10 := Nat.lt_of_lt_of_le (n := w.heap.size) (by simp <;> omega) hw1.size)
    go_ret
    exact ⟨rfl, by repeat (first | (with_reducible exact Below.refl _ _) | (with_reducible refine Below.setCell ?_ ?_ _) | (with_reducible refine Below.drew ?_) | (with_reducible refine Below.alloc ?_ ?_ _) | (with_reducible refine Below.trans ?_ (Below.mono hw1 ?_)) | (with_reducible exact hw1.size) | omega | (simp <;> omega) | (simp <;> (have s := hw1.size; omega)) | (have s0 := hw1.size; (try simp at s0); (try simp); omega))⟩
  · have h1' : ((L.length : Int) != (L.length : Int)) = false := by simp
    have hy := fun (k : Kk) (hk : IsK k) (W : World) => refIsKick_any k W true (decide_eq_true hk).symm
    have hno := fun (k : Kk) (hk : ¬ IsK k) (W : World) => refIsKick_any k W false (decide_eq_false hk).symm
    have HV := Lib.hid hv
    clear h hp hr hl hv
    go_enter Tryz.func31, Tryz.ntmps31
    go_wp2_with ((with_reducible refine (c1 _ (H.out.later (by repeat (first | (with_reducible exact Below.refl _ _) | (with_reducible refine Below.setCell ?_ ?_ _) | (with_reducible refine Below.drew ?_) | (with_reducible refine Below.alloc ?_ ?_ _) | omega | (simp <;> omega))))).mono ?_); rintro e w1 ⟨rfl, hw1⟩; have hc1 := Tail.cells hw1; have zw10 := Nat.lt_of_lt_of_le (n := w.heap.size) (by simp <;> omega) hw1.size)
    have hB : Below w.heap.size w w1 := by repeat (first | (with_reducible exact Below.refl _ _) | (with_reducible refine Below.setCell ?_ ?_ _) | (with_reducible refine Below.drew ?_) | (with_reducible refine Below.alloc ?_ ?_ _) | (with_reducible refine Below.trans ?_ (Below.mono hw1 ?_)) | (with_reducible exact hw1.size) | omega | (simp <;> omega) | (simp <;> (have s := hw1.size; omega)) | (have s0 := hw1.size; (try simp at s0); (try simp); omega))
    clear hw1 hc1 zw10 c1
    go_loopw [6] (fun q wr => ∃ k : Nat, k ≤ L.length ∧ q = .int .i64 k ∧ Hid (∀ (i : Nat) (x : Int), i < k * 3 → l[i]? = some x → IsN x) ∧ Below w.heap.size w wr) (fun q _ => L.length - (intOf q).toNat)
    case atStart => exact ⟨0, by omega, rfl, Lib.hid (by omega), hB⟩
    case round =>
      obtain ⟨k, hk, rfl, hall, hb⟩ := hrel
      clear hB
      by_cases hlt : k < L.length
      · have i2 : k * 3 + 2 < l.length := by have := HL.out; omega
        obtain ⟨pb, po2, rfl, hpl⟩ : ∃ b off, po = some ⟨b, off, none⟩ ∧ LiesI w b off l := by
          rcases HP.out with h | h
          · rw [h] at i2; simp at i2
          · exact h
        have x0 := hpl.later hb (k * 3) _ (List.getElem?_eq_getElem (by omega))
        have x1 := hpl.later hb (k * 3 + 1) _ (List.getElem?_eq_getElem (by omega))
        have x2 := hpl.later hb (k * 3 + 2) _ (List.getElem?_eq_getElem i2)
        have hn := alln_next hall.out i2
        have hbad := alln_bad i2
        have hbs := hb.size
        have i1 : (k : Int) < (L.length : Int) := by omega
        simp only [← Nat.add_assoc] at x1 x2
        by_cases hk1 : IsK ⟨l[k * 3]'(by omega), l[k * 3 + 1]'(by omega), l[k * 3 + 2]⟩
        · have HN := Lib.hid (hn hk1)
          have c2 := hy _ hk1
          clear hn hbad hk1 hpl hy hno hall
          generalize l[k * 3]'(by omega) = p0 at *
          generalize l[k * 3 + 1]'(by omega) = p1 at *
          generalize l[k * 3 + 2] = p2 at *
          clear i2
          go_wp2_with ((with_reducible refine (c2 _).mono ?_); rintro e w2 ⟨rfl, hw2⟩)
          exact ⟨⟨k + 1, by omega, by go_num, Lib.hid HN.out, by repeat (first | (with_reducible exact Below.refl _ _) | (with_reducible refine Below.setCell ?_ ?_ _) | (with_reducible refine Below.drew ?_) | (with_reducible refine Below.alloc ?_ ?_ _) | (with_reducible refine Below.trans ?_ (Below.mono hw2 ?_)) | (with_reducible refine Below.trans ?_ (Below.mono hb ?_)) | (with_reducible exact hw2.size) | (with_reducible exact hb.size) | omega | (simp <;> omega) | (simp <;> (have s := hw2.size; omega)) | (simp <;> (have s := hb.size; omega)) | (have s0 := hw2.size; (try simp at s0); have s1 := hb.size; (try simp at s1); (try simp); omega))⟩, by simp [intOf]; omega⟩
        · have HN := Lib.hid (hbad hk1)
          have c2 := hno _ hk1
          clear hn hbad hk1 hpl hy hno hall
          generalize l[k * 3]'(by omega) = p0 at *
          generalize l[k * 3 + 1]'(by omega) = p1 at *
          generalize l[k * 3 + 2] = p2 at *
          clear i2
          obtain rfl : r = 1 := by
            rcases HV.out with ⟨h, -⟩ | ⟨-, h⟩
            · exact absurd h HN.out
            · exact h
          go_wp2_with ((with_reducible refine (c2 _).mono ?_); rintro e w2 ⟨rfl, hw2⟩)
          go_ret
          exact ⟨rfl, by repeat (first | (with_reducible exact Below.refl _ _) | (with_reducible refine Below.setCell ?_ ?_ _) | (with_reducible refine Below.drew ?_) | (with_reducible refine Below.alloc ?_ ?_ _) | (with_reducible refine Below.trans ?_ (Below.mono hw2 ?_)) | (with_reducible refine Below.trans ?_ (Below.mono hb ?_)) | (with_reducible exact hw2.size) | (with_reducible exact hb.size) | omega | (simp <;> omega) | (simp <;> (have s := hw2.size; omega)) | (simp <;> (have s := hb.size; omega)) | (have s0 := hw2.size; (try simp at s0); have s1 := hb.size; (try simp at s1); (try simp); omega))⟩
      · obtain rfl : k = L.length := by omega
        obtain rfl : r = 0 := by
          rcases HV.out with ⟨-, h⟩ | ⟨h, -⟩
          · exact h
          · exact absurd (fun i x hx => hall.out i x (by have := (List.getElem?_eq_some_iff.1 hx).1; have := HL.out; omega) hx) h
        go_wp2
        go_ret
        exact ⟨rfl, hb⟩

/-! ### the opposite momenta -/
theorem LiesI.grown {w w1 : World} {b off : Nat} {l : List Int} {row : Option Nat} (h : LiesI w b off l) (hg : w.grownBy w1 row) (hne : some b ≠ row) : LiesI w1 b off l := fun i x hx => hg.cell (h i x hx) hne
/-- the first m numbers turned round, the rest none -/
def rvl (l : List Int) (m : Nat) : List Int := (l.take m).map oppN ++ List.replicate (l.length - m) 0
def RetV (m : Nat) (l : List Int) (n : Nat) (e : Ending) (w' : World) : Prop := ∃ g k : Nat, e = .returned (.tuple #[.slice (some ⟨g, 0, none⟩) n k, .int .i64 0]) ∧ LiesI w' g 0 l ∧ m ≤ g
end Go.Proofs.YtilbhcjnkmeecaaGreat
