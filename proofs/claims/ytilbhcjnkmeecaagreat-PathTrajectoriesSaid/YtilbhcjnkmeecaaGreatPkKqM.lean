/- The change of the energy along a run, and a trajectory that is accepted or not, as the program makes them.
Conditions: those written at each theorem. -/
import Derived.Test.YtilbhcjnkmeecaaGreatPkKorB
import Derived.Test.YtilbhcjnkmeecaaGreatPkEnA
import Derived.Test.YtilbhcjnkmeecaaGreatPkPutC
import Derived.Test.YtilbhcjnkmeecaaGreatPkWlk
import Derived.Test.YtilbhcjnkmeecaaGreatPkDrawO
namespace Go.Proofs.YtilbhcjnkmeecaaGreat
set_option linter.unusedVariables false
set_option linter.unusedSimpArgs false
set_option maxRecDepth 1000000
open Go.RowKit
open Um Tm Cm Km

theorem moms_K {s : Int} (k : Nat) : AllK (moms s k) := by
  induction k with
  | zero => intro x hx; simp [moms] at hx
  | succ m ih =>
    intro x hx
    have e : moms s (m + 1) = moms s m ++ [dr s m] := rfl
    rw [e, List.mem_append] at hx
    rcases hx with hx | hx
    · exact ih x hx
    · simp only [List.mem_singleton] at hx
      subst hx
      unfold dr drw IsN
      omega
theorem St_moms {a b c s : Int} {n : Nat} {L : List Q} {ns : List Int} (hr : numsR a b c L ns 0) (hn : L.length = n) : St a b c n L (moms s (n * 3)) := by
  obtain ⟨hfl, -, hS⟩ := numsR_smR hr
  exact ⟨fldR_FlK hfl, hS, hn, moms_len s _, moms_K _⟩
theorem enr_rng {a b c : Int} {n N : Nat} {L : List Q} {l : List Int} (h : St a b c n L l) (hN : (N : Int) = a * b * c) {x : Int} (x0 : 0 ≤ x) (x1 : x ≤ 10) : 0 ≤ enr a b c L N l x ∧ enr a b c L N l x ≤ 10000 := by
  obtain ⟨p0, p1⟩ := pot_pqs_rng (St_nums h).1 hN
  obtain ⟨m0, m1⟩ := beta_rng x0 x1 p0 p1
  obtain ⟨k0, k1⟩ := kin_rng l
  have h48 : n ≤ 48 := by have := h.f.n; have := h.e; have := h.f.z.p; omega
  rw [h.m] at k1
  unfold enr
  omega
set_option maxHeartbeats 1600000 in
theorem changeOf_ok (a b c : Int) (bl off cap pb po pc g k gm km n N : Nat) (L L1 : List Q) (l l1 : List Int) (x : Int) (w : World) (h : Lies w bl off L) (hp : LiesI w pb po l) (h1 : Lies w g 0 L1) (hp1 : LiesI w gm 0 l1) (hst : St a b c n L l) (hst1 : St a b c n L1 l1) (hN : (N : Int) = a * b * c) (x0 : 0 ≤ x) (x1 : x ≤ 10) : Calls Tryz.prog 41 #[.agg #[.int .i64 a, .int .i64 b, .int .i64 c, .slice (some ⟨bl, off, none⟩) n cap], .slice (some ⟨pb, po, none⟩) n pc, .agg #[.int .i64 a, .int .i64 b, .int .i64 c, .slice (some ⟨g, 0, none⟩) n k], .slice (some ⟨gm, 0, none⟩) n km, .int .i64 x] w fun e w' => e = .returned (.tuple #[.int .i64 (enr a b c L1 N l1 x - enr a b c L N l x), .int .i64 0]) ∧ Below w.heap.size w w' := by
  have c1 : ∀ W : World, Lies W bl off L → LiesI W pb po l → Calls Tryz.prog 71 #[.agg #[.int .i64 a, .int .i64 b, .int .i64 c, .slice (some ⟨bl, off, none⟩) n cap], .slice (some ⟨pb, po, none⟩) n pc, .int .i64 x] W fun e w' => e = .returned (.tuple #[.int .i64 (enr a b c L N l x), .int .i64 0]) ∧ Below W.heap.size W w' := fun W h h2 => by
    obtain ⟨hr, hv⟩ := St_nums hst
    have := energy_ok a b c bl off cap pb po pc n N L _ l x W h h2 hst.m hr hv hN x0 x1
    rwa [hst.e] at this
  have c2 : ∀ W : World, Lies W g 0 L1 → LiesI W gm 0 l1 → Calls Tryz.prog 71 #[.agg #[.int .i64 a, .int .i64 b, .int .i64 c, .slice (some ⟨g, 0, none⟩) n k], .slice (some ⟨gm, 0, none⟩) n km, .int .i64 x] W fun e w' => e = .returned (.tuple #[.int .i64 (enr a b c L1 N l1 x), .int .i64 0]) ∧ Below W.heap.size W w' := fun W h h2 => by
    obtain ⟨hr, hv⟩ := St_nums hst1
    have := energy_ok a b c g 0 k gm 0 km n N L1 _ l1 x W h h2 hst1.m hr hv hN x0 x1
    rwa [hst1.e] at this
  obtain ⟨r0, r1⟩ := enr_rng hst hN x0 x1
  obtain ⟨s0, s1⟩ := enr_rng hst1 hN x0 x1
  have H := Lib.hid h
  have HP := Lib.hid hp
  have H1 := Lib.hid h1
  have HP1 := Lib.hid hp1
  clear h hp h1 hp1 hst hst1 hN x0 x1
  generalize enr a b c L N l x = e0 at *
  generalize enr a b c L1 N l1 x = e1 at *
  have ew : IntKind.i64.wrap (e1 - e0) = e1 - e0 := IntWalk.i64_in _ (by omega)
  go_enter Tryz.func41, Tryz.ntmps41
  go_wp2_with (first | ((with_reducible refine (c1 _ (H.out.later (by repeat (first | (with_reducible exact Below.refl _ _) | (with_reducible refine Below.setCell ?_ ?_ _) | (with_reducible refine Below.drew ?_) | (with_reducible refine Below.alloc ?_ ?_ _) | omega | (simp <;> omega)))) (HP.out.later (by repeat (first | (with_reducible exact Below.refl _ _) | (with_reducible refine Below.setCell ?_ ?_ _) | (with_reducible refine Below.drew ?_) | (with_reducible refine Below.alloc ?_ ?_ _) | omega | (simp <;> omega))))).mono ?_); clear c1; rintro e w1 ⟨rfl, hw1⟩; have hc1 := Tail.cells hw1; have zw10 := Nat.lt_of_lt_of_le (n := w.heap.size) (by simp <;> omega) hw1.size; have zw11 := Nat.lt_of_lt_of_le (n := w.heap.size + 1) (by simp <;> omega) hw1.size) | ((with_reducible refine (c2 _ (H1.out.later (by repeat (first | (with_reducible exact Below.refl _ _) | (with_reducible refine Below.setCell ?_ ?_ _) | (with_reducible refine Below.drew ?_) | (with_reducible refine Below.alloc ?_ ?_ _) | (with_reducible refine Below.trans ?_ (Below.mono hw1 ?_)) | (with_reducible exact hw1.size) | omega | (simp <;> omega) | (simp <;> (have s := hw1.size; omega)) | (have s0 := hw1.size; (try simp at s0); (try simp); omega)))) (HP1.out.later (by repeat (first | (with_reducible exact Below.refl _ _) | (with_reducible refine Below.setCell ?_ ?_ _) | (with_reducible refine Below.drew ?_) | (with_reducible refine Below.alloc ?_ ?_ _) | (with_reducible refine Below.trans ?_ (Below.mono hw1 ?_)) | (with_reducible exact hw1.size) | omega | (simp <;> omega) | (simp <;> (have s := hw1.size; omega)) | (have s0 := hw1.size; (try simp at s0); (try simp); omega))))).mono ?_); clear c2; rintro e w2 ⟨rfl, hw2⟩))
  go_ret2
  exact ⟨rfl, by repeat (first | (with_reducible exact Below.refl _ _) | (with_reducible refine Below.setCell ?_ ?_ _) | (with_reducible refine Below.drew ?_) | (with_reducible refine Below.alloc ?_ ?_ _) | (with_reducible refine Below.trans ?_ (Below.mono hw2 ?_)) | (with_reducible refine Below.trans ?_ (Below.mono hw1 ?_)) | (with_reducible exact hw2.size) | (with_reducible exact hw1.size) | omega | (simp <;> omega) | (simp <;> (have s := hw2.size; omega)) | (simp <;> (have s := hw1.size; omega)) | (have s0 := hw2.size; (try simp at s0); have s1 := hw1.size; (try simp at s1); (try simp); omega))⟩
set_option maxHeartbeats 1600000 in
theorem changeOf_arg (a b c : Int) (bl off cap pb po pc n m : Nat) (v : Option Addr) (L : List Q) (l : List Int) (x : Int) (g k km : Nat) (w : World) (h : Lies w bl off L) (hp : LiesI w pb po l) (hst : St a b c n L l) (hx : ¬ (0 ≤ x ∧ x ≤ 10)) : Calls Tryz.prog 41 #[.agg #[.int .i64 a, .int .i64 b, .int .i64 c, .slice (some ⟨bl, off, none⟩) n cap], .slice (some ⟨pb, po, none⟩) n pc, .agg #[.int .i64 a, .int .i64 b, .int .i64 c, .slice (some ⟨g, 0, none⟩) n k], .slice v m km, .int .i64 x] w fun e w' => e = .returned (.tuple #[.int .i64 0, .int .i64 1]) ∧ Below w.heap.size w w' := by
  have c1 : ∀ W : World, Lies W bl off L → LiesI W pb po l → Calls Tryz.prog 71 #[.agg #[.int .i64 a, .int .i64 b, .int .i64 c, .slice (some ⟨bl, off, none⟩) n cap], .slice (some ⟨pb, po, none⟩) n pc, .int .i64 x] W fun e w' => e = .returned (.tuple #[.int .i64 0, .int .i64 1]) ∧ Below W.heap.size W w' := fun W h h2 => by
    obtain ⟨hr, hv⟩ := St_nums hst
    have := energy_arg a b c (some ⟨bl, off, none⟩) cap pb po pc n L _ l x W (.inr ⟨bl, off, rfl, h⟩) h2 hst.m hr hv hx
    rwa [hst.e] at this
  have H := Lib.hid h
  have HP := Lib.hid hp
  clear h hp hst hx
  go_enter Tryz.func41, Tryz.ntmps41
  go_wp2_with ((with_reducible refine (c1 _ (H.out.later (by repeat (first | (with_reducible exact Below.refl _ _) | (with_reducible refine Below.setCell ?_ ?_ _) | (with_reducible refine Below.drew ?_) | (with_reducible refine Below.alloc ?_ ?_ _) | omega | (simp <;> omega)))) (HP.out.later (by repeat (first | (with_reducible exact Below.refl _ _) | (with_reducible refine Below.setCell ?_ ?_ _) | (with_reducible refine Below.drew ?_) | (with_reducible refine Below.alloc ?_ ?_ _) | omega | (simp <;> omega))))).mono ?_); clear c1; rintro e w1 ⟨rfl, hw1⟩)
  go_ret2
  exact ⟨rfl, by repeat (first | (with_reducible exact Below.refl _ _) | (with_reducible refine Below.setCell ?_ ?_ _) | (with_reducible refine Below.drew ?_) | (with_reducible refine Below.alloc ?_ ?_ _) | (with_reducible refine Below.trans ?_ (Below.mono hw1 ?_)) | (with_reducible exact hw1.size) | omega | (simp <;> omega) | (simp <;> (have s := hw1.size; omega)) | (have s0 := hw1.size; (try simp at s0); (try simp); omega))⟩
/-- what a trajectory answers -/
def RetT (a b c : Int) (n m : Nat) (L : List Q) (t : Int) (q : Bool) (e : Ending) (w' : World) : Prop := ∃ g k : Nat, e = .returned (.tuple #[.agg #[.int .i64 a, .int .i64 b, .int .i64 c, .slice (some ⟨g, 0, none⟩) n k], .int .i64 t, .bool q, .int .i64 0]) ∧ LBox w' g L ∧ m ≤ g
/-- whether a trajectory is accepted -/
def tac (a b c : Int) (n N : Nat) (L : List Q) (s : Int) (x : Nat) (beta : Int) : Bool := acc (enr a b c (rn a b c (L, moms s (n * 3)) x).1 N (rn a b c (L, moms s (n * 3)) x).2 beta - enr a b c L N (moms s (n * 3)) beta) (drw (adm s (n * 3)) 1073741824)
/-- the field behind a trajectory -/
def tfl (a b c : Int) (n N : Nat) (L : List Q) (s : Int) (x : Nat) (beta : Int) : List Q := if tac a b c n N L s x beta = true then (rn a b c (L, moms s (n * 3)) x).1 else L
/-- the error of a trajectory's arguments, over that of its field -/
def trR (r0 s x beta q : Int) : Prop := (r0 ≠ 0 ∧ q = r0) ∨ (r0 = 0 ∧ ¬ (IsSeed s ∧ (0 ≤ x ∧ x ≤ 100) ∧ (0 ≤ beta ∧ beta ≤ 10)) ∧ q = 1)
theorem drw_rng (s : Int) : 0 ≤ drw s 1073741824 ∧ drw s 1073741824 ≤ 1073741823 := by
  unfold drw
  omega
end Go.Proofs.YtilbhcjnkmeecaaGreat

/- A trajectory, as the program makes it.
Conditions: those written at each theorem. -/
namespace Go.Proofs.YtilbhcjnkmeecaaGreat
set_option linter.unusedVariables false
set_option linter.unusedSimpArgs false
set_option maxRecDepth 1000000
open Go.RowKit
open Um Tm Cm Km

set_option maxHeartbeats 6400000 in
theorem traj_field (a b c s x be r t2 tm d ch : Int) (ao : Option Addr) (m cap n : Nat) (L L4 : List Q) (l4 lm : List Int) (w : World) (hm : LiesO w ao L) (h0 : r ≠ 0)
    (hC : ∀ W : World, LiesO W ao L → Calls Tryz.prog 39 #[.agg #[.int .i64 a, .int .i64 b, .int .i64 c, .slice ao m cap]] W fun e w' => e = .returned (.int .i64 r) ∧ Below W.heap.size W w')
    : Calls Tryz.prog 23 #[.agg #[.int .i64 a, .int .i64 b, .int .i64 c, .slice ao m cap], .int .i64 s, .int .i64 x, .int .i64 be] w fun e w' => e = .returned (.tuple #[.agg #[.int .i64 0, .int .i64 0, .int .i64 0, .slice none 0 0], .int .i64 0, .bool false, .int .i64 r]) ∧ Below w.heap.size w w' := by
  have h0a : (r != 0) = true := by simpa using h0
  have H0 := Lib.hid hm
  clear hm h0
  go_enter Tryz.func23, Tryz.ntmps23
  go_wp2_with (fail)
  refine (hC _ (H0.out.later ba2)).mono ?_
  rintro e w1 ⟨rfl, hw1⟩
  have bw1 : Below w.heap.size w w1 := bel2 hw1
  have TF1 := Lib.hid (FW.n2a.later hw1)
  have TR1 := Lib.hid (FW.n2b.later hw1)
  have H1 := Lib.hid (H0.out.later bw1)
  have HB1 := Lib.hid bw1
  clear hw1 bw1 H0
  obtain ⟨tf1_0, tf1_1, tf1_2, tf1_3, tf1_4, tf1_5⟩ := TF1.out
  obtain ⟨tr1_0, tr1_1, tr1_2, tr1_3, tr1_4, tr1_5⟩ := TR1.out
  go_wp2_with (fail)
  refine bodyPost_ret (v := .tuple #[.agg #[.int .i64 0, .int .i64 0, .int .i64 0, .slice none 0 0], .int .i64 0, .bool false, .int .i64 r]) (by simp [results, Tryz.results23, go_sem, tr1_0, tr1_1, tr1_2, tr1_3, tr1_4, tr1_5]) rfl ⟨rfl, ?_⟩
  have hb := HB1.out
  repeat (first | (with_reducible exact Below.refl _ _) | (with_reducible refine Below.setCell ?_ ?_ _) | (with_reducible refine Below.drew ?_) | (with_reducible refine Below.alloc ?_ ?_ _) | (with_reducible refine Below.trans ?_ (Below.mono hb ?_)) | (with_reducible exact hb.size) | omega | (simp <;> omega) | (simp <;> (have s := hb.size; omega)) | (have s0 := hb.size; (try simp at s0); (try simp); omega))

set_option maxHeartbeats 6400000 in
theorem traj_seed (a b c s x be r t2 tm d ch : Int) (ao : Option Addr) (m cap n : Nat) (L L4 : List Q) (l4 lm : List Int) (w : World) (hm : LiesO w ao L)
    (hC : ∀ W : World, LiesO W ao L → Calls Tryz.prog 39 #[.agg #[.int .i64 a, .int .i64 b, .int .i64 c, .slice ao m cap]] W fun e w' => e = .returned (.int .i64 0) ∧ Below W.heap.size W w')
    (hMb : ∀ W : World, Calls Tryz.prog 40 #[.agg #[.int .i64 a, .int .i64 b, .int .i64 c], .int .i64 s] W fun e w' => e = .returned (.tuple #[.slice none 0 0, .int .i64 0, .int .i64 1]) ∧ Below W.heap.size W w')
    : Calls Tryz.prog 23 #[.agg #[.int .i64 a, .int .i64 b, .int .i64 c, .slice ao m cap], .int .i64 s, .int .i64 x, .int .i64 be] w fun e w' => e = .returned (.tuple #[.agg #[.int .i64 0, .int .i64 0, .int .i64 0, .slice none 0 0], .int .i64 0, .bool false, .int .i64 1]) ∧ Below w.heap.size w w' := by
  have H0 := Lib.hid hm
  clear hm
  go_enter Tryz.func23, Tryz.ntmps23
  go_wp2_with (fail)
  refine (hC _ (H0.out.later ba2)).mono ?_
  rintro e w1 ⟨rfl, hw1⟩
  have bw1 : Below w.heap.size w w1 := bel2 hw1
  have TF1 := Lib.hid (FW.n2a.later hw1)
  have TR1 := Lib.hid (FW.n2b.later hw1)
  have H1 := Lib.hid (H0.out.later bw1)
  have HB1 := Lib.hid bw1
  clear hw1 bw1 H0
  obtain ⟨tf1_0, tf1_1, tf1_2, tf1_3, tf1_4, tf1_5⟩ := TF1.out
  obtain ⟨tr1_0, tr1_1, tr1_2, tr1_3, tr1_4, tr1_5⟩ := TR1.out
  go_wp2_with (fail)
  refine (hMb _).mono ?_
  rintro e w2 ⟨rfl, hw2⟩
  clear tf1_0 tf1_1 tf1_2 tf1_3 tf1_4 tf1_5 tr1_0 tr1_1 tr1_2 tr1_3 tr1_4 tr1_5
  have bw2 : Below w1.heap.size w1 w2 := hw2
  have H2 := Lib.hid (H1.out.later bw2)
  have TF2 := Lib.hid (TF1.out.later bw2)
  have TR2 := Lib.hid (TR1.out.later bw2)
  have HB2 := Lib.hid (HB1.out.trans (bw2.mono HB1.out.size))
  clear hw2 bw2 H1 TF1 TR1 HB1
  obtain ⟨tf2_0, tf2_1, tf2_2, tf2_3, tf2_4, tf2_5⟩ := TF2.out
  obtain ⟨tr2_0, tr2_1, tr2_2, tr2_3, tr2_4, tr2_5⟩ := TR2.out
  go_wp2_with (fail)
  refine bodyPost_ret (v := .tuple #[.agg #[.int .i64 0, .int .i64 0, .int .i64 0, .slice none 0 0], .int .i64 0, .bool false, .int .i64 1]) (by simp [results, Tryz.results23, go_sem, tr2_0, tr2_1, tr2_2, tr2_3, tr2_4, tr2_5]) rfl ⟨rfl, ?_⟩
  have hb := HB2.out
  repeat (first | (with_reducible exact Below.refl _ _) | (with_reducible refine Below.setCell ?_ ?_ _) | (with_reducible refine Below.drew ?_) | (with_reducible refine Below.alloc ?_ ?_ _) | (with_reducible refine Below.trans ?_ (Below.mono hb ?_)) | (with_reducible exact hb.size) | omega | (simp <;> omega) | (simp <;> (have s := hb.size; omega)) | (have s0 := hb.size; (try simp at s0); (try simp); omega))

set_option maxHeartbeats 6400000 in
theorem traj_steps (a b c s x be r t2 tm d ch : Int) (ao : Option Addr) (m cap n : Nat) (L L4 : List Q) (l4 lm : List Int) (w : World) (hm : LiesO w ao L)
    (hC : ∀ W : World, LiesO W ao L → Calls Tryz.prog 39 #[.agg #[.int .i64 a, .int .i64 b, .int .i64 c, .slice ao m cap]] W fun e w' => e = .returned (.int .i64 0) ∧ Below W.heap.size W w')
    (hM : ∀ W : World, Calls Tryz.prog 40 #[.agg #[.int .i64 a, .int .i64 b, .int .i64 c], .int .i64 s] W fun e w' => RetM W.heap.size lm n tm e w' ∧ Below W.heap.size W w')
    (hRb : ∀ (W : World) (gm km : Nat), LiesO W ao L → LiesI W gm 0 lm → Calls Tryz.prog 20 #[.agg #[.int .i64 a, .int .i64 b, .int .i64 c, .slice ao m cap], .slice (some ⟨gm, 0, none⟩) n km, .int .i64 x] W fun e w' => e = .returned (.tuple #[.agg #[.int .i64 0, .int .i64 0, .int .i64 0, .slice none 0 0], .slice none 0 0, .int .i64 1]) ∧ Below W.heap.size W w')
    : Calls Tryz.prog 23 #[.agg #[.int .i64 a, .int .i64 b, .int .i64 c, .slice ao m cap], .int .i64 s, .int .i64 x, .int .i64 be] w fun e w' => e = .returned (.tuple #[.agg #[.int .i64 0, .int .i64 0, .int .i64 0, .slice none 0 0], .int .i64 0, .bool false, .int .i64 1]) ∧ Below w.heap.size w w' := by
  have H0 := Lib.hid hm
  clear hm
  go_enter Tryz.func23, Tryz.ntmps23
  go_wp2_with (fail)
  refine (hC _ (H0.out.later ba2)).mono ?_
  rintro e w1 ⟨rfl, hw1⟩
  have bw1 : Below w.heap.size w w1 := bel2 hw1
  have TF1 := Lib.hid (FW.n2a.later hw1)
  have TR1 := Lib.hid (FW.n2b.later hw1)
  have H1 := Lib.hid (H0.out.later bw1)
  have HB1 := Lib.hid bw1
  clear hw1 bw1 H0
  obtain ⟨tf1_0, tf1_1, tf1_2, tf1_3, tf1_4, tf1_5⟩ := TF1.out
  obtain ⟨tr1_0, tr1_1, tr1_2, tr1_3, tr1_4, tr1_5⟩ := TR1.out
  go_wp2_with (fail)
  refine (hM _).mono ?_
  rintro e w2 ⟨⟨gm, km, rfl, hlm, -⟩, hw2⟩
  clear tf1_0 tf1_1 tf1_2 tf1_3 tf1_4 tf1_5 tr1_0 tr1_1 tr1_2 tr1_3 tr1_4 tr1_5
  have bw2 : Below w1.heap.size w1 w2 := hw2
  have H2 := Lib.hid (H1.out.later bw2)
  have TF2 := Lib.hid (TF1.out.later bw2)
  have TR2 := Lib.hid (TR1.out.later bw2)
  have HB2 := Lib.hid (HB1.out.trans (bw2.mono HB1.out.size))
  have M2 := Lib.hid hlm
  clear hlm
  clear hw2 bw2 H1 TF1 TR1 HB1
  obtain ⟨tf2_0, tf2_1, tf2_2, tf2_3, tf2_4, tf2_5⟩ := TF2.out
  obtain ⟨tr2_0, tr2_1, tr2_2, tr2_3, tr2_4, tr2_5⟩ := TR2.out
  go_wp2_with (fail)
  refine (hRb _ _ _ (H2.out) (M2.out)).mono ?_
  rintro e w3 ⟨rfl, hw3⟩
  clear tf2_0 tf2_1 tf2_2 tf2_3 tf2_4 tf2_5 tr2_0 tr2_1 tr2_2 tr2_3 tr2_4 tr2_5
  have bw3 : Below w2.heap.size w2 w3 := hw3
  have H3 := Lib.hid (H2.out.later bw3)
  have TF3 := Lib.hid (TF2.out.later bw3)
  have TR3 := Lib.hid (TR2.out.later bw3)
  have M3 := Lib.hid (M2.out.later bw3)
  have HB3 := Lib.hid (HB2.out.trans (bw3.mono HB2.out.size))
  clear hw3 bw3 H2 TF2 TR2 M2 HB2
  obtain ⟨tf3_0, tf3_1, tf3_2, tf3_3, tf3_4, tf3_5⟩ := TF3.out
  obtain ⟨tr3_0, tr3_1, tr3_2, tr3_3, tr3_4, tr3_5⟩ := TR3.out
  go_wp2_with (fail)
  refine bodyPost_ret (v := .tuple #[.agg #[.int .i64 0, .int .i64 0, .int .i64 0, .slice none 0 0], .int .i64 0, .bool false, .int .i64 1]) (by simp [results, Tryz.results23, go_sem, tr3_0, tr3_1, tr3_2, tr3_3, tr3_4, tr3_5]) rfl ⟨rfl, ?_⟩
  have hb := HB3.out
  repeat (first | (with_reducible exact Below.refl _ _) | (with_reducible refine Below.setCell ?_ ?_ _) | (with_reducible refine Below.drew ?_) | (with_reducible refine Below.alloc ?_ ?_ _) | (with_reducible refine Below.trans ?_ (Below.mono hb ?_)) | (with_reducible exact hb.size) | omega | (simp <;> omega) | (simp <;> (have s := hb.size; omega)) | (have s0 := hb.size; (try simp at s0); (try simp); omega))

set_option maxHeartbeats 6400000 in
theorem traj_beta (a b c s x be r t2 tm d ch : Int) (ao : Option Addr) (m cap n : Nat) (L L4 : List Q) (l4 lm : List Int) (w : World) (hm : LiesO w ao L)
    (hC : ∀ W : World, LiesO W ao L → Calls Tryz.prog 39 #[.agg #[.int .i64 a, .int .i64 b, .int .i64 c, .slice ao m cap]] W fun e w' => e = .returned (.int .i64 0) ∧ Below W.heap.size W w')
    (hM : ∀ W : World, Calls Tryz.prog 40 #[.agg #[.int .i64 a, .int .i64 b, .int .i64 c], .int .i64 s] W fun e w' => RetM W.heap.size lm n tm e w' ∧ Below W.heap.size W w')
    (hR : ∀ (W : World) (gm km : Nat), LiesO W ao L → LiesI W gm 0 lm → Calls Tryz.prog 20 #[.agg #[.int .i64 a, .int .i64 b, .int .i64 c, .slice ao m cap], .slice (some ⟨gm, 0, none⟩) n km, .int .i64 x] W fun e w' => RetRun a b c n W.heap.size (L4, l4) e w' ∧ Below W.heap.size W w')
    (hGb : ∀ (W : World) (gm km g k g2 k2 : Nat), LiesO W ao L → LiesI W gm 0 lm → Lies W g 0 L4 → LiesI W g2 0 l4 → Calls Tryz.prog 41 #[.agg #[.int .i64 a, .int .i64 b, .int .i64 c, .slice ao m cap], .slice (some ⟨gm, 0, none⟩) n km, .agg #[.int .i64 a, .int .i64 b, .int .i64 c, .slice (some ⟨g, 0, none⟩) n k], .slice (some ⟨g2, 0, none⟩) n k2, .int .i64 be] W fun e w' => e = .returned (.tuple #[.int .i64 0, .int .i64 1]) ∧ Below W.heap.size W w')
    : Calls Tryz.prog 23 #[.agg #[.int .i64 a, .int .i64 b, .int .i64 c, .slice ao m cap], .int .i64 s, .int .i64 x, .int .i64 be] w fun e w' => e = .returned (.tuple #[.agg #[.int .i64 0, .int .i64 0, .int .i64 0, .slice none 0 0], .int .i64 0, .bool false, .int .i64 1]) ∧ Below w.heap.size w w' := by
  have H0 := Lib.hid hm
  clear hm
  go_enter Tryz.func23, Tryz.ntmps23
  go_wp2_with (fail)
  refine (hC _ (H0.out.later ba2)).mono ?_
  rintro e w1 ⟨rfl, hw1⟩
  have bw1 : Below w.heap.size w w1 := bel2 hw1
  have TF1 := Lib.hid (FW.n2a.later hw1)
  have TR1 := Lib.hid (FW.n2b.later hw1)
  have H1 := Lib.hid (H0.out.later bw1)
  have HB1 := Lib.hid bw1
  clear hw1 bw1 H0
  obtain ⟨tf1_0, tf1_1, tf1_2, tf1_3, tf1_4, tf1_5⟩ := TF1.out
  obtain ⟨tr1_0, tr1_1, tr1_2, tr1_3, tr1_4, tr1_5⟩ := TR1.out
  go_wp2_with (fail)
  refine (hM _).mono ?_
  rintro e w2 ⟨⟨gm, km, rfl, hlm, -⟩, hw2⟩
  clear tf1_0 tf1_1 tf1_2 tf1_3 tf1_4 tf1_5 tr1_0 tr1_1 tr1_2 tr1_3 tr1_4 tr1_5
  have bw2 : Below w1.heap.size w1 w2 := hw2
  have H2 := Lib.hid (H1.out.later bw2)
  have TF2 := Lib.hid (TF1.out.later bw2)
  have TR2 := Lib.hid (TR1.out.later bw2)
  have HB2 := Lib.hid (HB1.out.trans (bw2.mono HB1.out.size))
  have M2 := Lib.hid hlm
  clear hlm
  clear hw2 bw2 H1 TF1 TR1 HB1
  obtain ⟨tf2_0, tf2_1, tf2_2, tf2_3, tf2_4, tf2_5⟩ := TF2.out
  obtain ⟨tr2_0, tr2_1, tr2_2, tr2_3, tr2_4, tr2_5⟩ := TR2.out
  go_wp2_with (fail)
  refine (hR _ _ _ (H2.out) (M2.out)).mono ?_
  rintro e w3 ⟨⟨g4, k4, m4, j4, rfl, hb4, hi4, hg4, -, -⟩, hw3⟩
  have q4 : w.heap.size + 1 < g4 := by have h1 := TR2.out.lt; omega
  clear tf2_0 tf2_1 tf2_2 tf2_3 tf2_4 tf2_5 tr2_0 tr2_1 tr2_2 tr2_3 tr2_4 tr2_5
  have bw3 : Below w2.heap.size w2 w3 := hw3
  have H3 := Lib.hid (H2.out.later bw3)
  have TF3 := Lib.hid (TF2.out.later bw3)
  have TR3 := Lib.hid (TR2.out.later bw3)
  have M3 := Lib.hid (M2.out.later bw3)
  have HB3 := Lib.hid (HB2.out.trans (bw3.mono HB2.out.size))
  have BL3 := Lib.hid hb4
  clear hb4
  have IL3 := Lib.hid hi4.h
  clear hi4
  clear hw3 bw3 H2 TF2 TR2 M2 HB2
  obtain ⟨tf3_0, tf3_1, tf3_2, tf3_3, tf3_4, tf3_5⟩ := TF3.out
  obtain ⟨tr3_0, tr3_1, tr3_2, tr3_3, tr3_4, tr3_5⟩ := TR3.out
  go_wp2_with (fail)
  refine (hGb _ _ _ _ _ _ _ (H3.out.later ba1) (M3.out.later ba1) (BL3.out.later ba1).h (IL3.out.later ba1)).mono ?_
  rintro e w4 ⟨rfl, hw4⟩
  have q7 : w.heap.size + 1 < w3.heap.size := TR3.out.lt
  clear tf3_0 tf3_1 tf3_2 tf3_3 tf3_4 tf3_5 tr3_0 tr3_1 tr3_2 tr3_3 tr3_4 tr3_5
  have bw4 : Below w3.heap.size w3 w4 := bel1 hw4
  have TG4 := Lib.hid (FW.n1.later hw4)
  have H4 := Lib.hid (H3.out.later bw4)
  have TF4 := Lib.hid (TF3.out.later bw4)
  have TR4 := Lib.hid (TR3.out.later bw4)
  have M4 := Lib.hid (M3.out.later bw4)
  have BL4 := Lib.hid (BL3.out.later bw4)
  have IL4 := Lib.hid (IL3.out.later bw4)
  have HB4 := Lib.hid (HB3.out.trans (bw4.mono HB3.out.size))
  clear hw4 bw4 H3 TF3 TR3 M3 BL3 IL3 HB3
  obtain ⟨tf4_0, tf4_1, tf4_2, tf4_3, tf4_4, tf4_5⟩ := TF4.out
  obtain ⟨tr4_0, tr4_1, tr4_2, tr4_3, tr4_4, tr4_5⟩ := TR4.out
  obtain ⟨tg4_0, tg4_1, tg4_2, tg4_3, tg4_4, tg4_5⟩ := TG4.out
  go_wp2_with (fail)
  refine bodyPost_ret (v := .tuple #[.agg #[.int .i64 0, .int .i64 0, .int .i64 0, .slice none 0 0], .int .i64 0, .bool false, .int .i64 1]) (by simp [results, Tryz.results23, go_sem, tr4_0, tr4_1, tr4_2, tr4_3, tr4_4, tr4_5]) rfl ⟨rfl, ?_⟩
  have hb := HB4.out
  repeat (first | (with_reducible exact Below.refl _ _) | (with_reducible refine Below.setCell ?_ ?_ _) | (with_reducible refine Below.drew ?_) | (with_reducible refine Below.alloc ?_ ?_ _) | (with_reducible refine Below.trans ?_ (Below.mono hb ?_)) | (with_reducible exact hb.size) | omega | (simp <;> omega) | (simp <;> (have s := hb.size; omega)) | (have s0 := hb.size; (try simp at s0); (try simp); omega))

set_option maxHeartbeats 6400000 in
theorem traj_acc (a b c s x be r t2 tm d ch : Int) (ao : Option Addr) (m cap n : Nat) (L L4 : List Q) (l4 lm : List Int) (w : World) (hm : LiesO w ao L)
    (hC : ∀ W : World, LiesO W ao L → Calls Tryz.prog 39 #[.agg #[.int .i64 a, .int .i64 b, .int .i64 c, .slice ao m cap]] W fun e w' => e = .returned (.int .i64 0) ∧ Below W.heap.size W w')
    (hM : ∀ W : World, Calls Tryz.prog 40 #[.agg #[.int .i64 a, .int .i64 b, .int .i64 c], .int .i64 s] W fun e w' => RetM W.heap.size lm n tm e w' ∧ Below W.heap.size W w')
    (hR : ∀ (W : World) (gm km : Nat), LiesO W ao L → LiesI W gm 0 lm → Calls Tryz.prog 20 #[.agg #[.int .i64 a, .int .i64 b, .int .i64 c, .slice ao m cap], .slice (some ⟨gm, 0, none⟩) n km, .int .i64 x] W fun e w' => RetRun a b c n W.heap.size (L4, l4) e w' ∧ Below W.heap.size W w')
    (hG : ∀ (W : World) (gm km g k g2 k2 : Nat), LiesO W ao L → LiesI W gm 0 lm → Lies W g 0 L4 → LiesI W g2 0 l4 → Calls Tryz.prog 41 #[.agg #[.int .i64 a, .int .i64 b, .int .i64 c, .slice ao m cap], .slice (some ⟨gm, 0, none⟩) n km, .agg #[.int .i64 a, .int .i64 b, .int .i64 c, .slice (some ⟨g, 0, none⟩) n k], .slice (some ⟨g2, 0, none⟩) n k2, .int .i64 be] W fun e w' => e = .returned (.tuple #[.int .i64 ch, .int .i64 0]) ∧ Below W.heap.size W w')
    (hD : ∀ W : World, Calls Tryz.prog 42 #[.int .i64 tm, .int .i64 1073741824] W fun e w' => e = .returned (.tuple #[.int .i64 d, .int .i64 t2, .int .i64 0]) ∧ Below W.heap.size W w')
    (hA : ∀ W : World, Calls Tryz.prog 43 #[.int .i64 ch, .int .i64 d] W fun e w' => e = .returned (.tuple #[.bool true, .int .i64 0]) ∧ W = w')
    : Calls Tryz.prog 23 #[.agg #[.int .i64 a, .int .i64 b, .int .i64 c, .slice ao m cap], .int .i64 s, .int .i64 x, .int .i64 be] w fun e w' => RetT a b c n w.heap.size L4 t2 true e w' ∧ Below w.heap.size w w' := by
  have H0 := Lib.hid hm
  clear hm
  go_enter Tryz.func23, Tryz.ntmps23
  go_wp2_with (fail)
  refine (hC _ (H0.out.later ba2)).mono ?_
  rintro e w1 ⟨rfl, hw1⟩
  have bw1 : Below w.heap.size w w1 := bel2 hw1
  have TF1 := Lib.hid (FW.n2a.later hw1)
  have TR1 := Lib.hid (FW.n2b.later hw1)
  have H1 := Lib.hid (H0.out.later bw1)
  have HB1 := Lib.hid bw1
  clear hw1 bw1 H0
  obtain ⟨tf1_0, tf1_1, tf1_2, tf1_3, tf1_4, tf1_5⟩ := TF1.out
  obtain ⟨tr1_0, tr1_1, tr1_2, tr1_3, tr1_4, tr1_5⟩ := TR1.out
  go_wp2_with (fail)
  refine (hM _).mono ?_
  rintro e w2 ⟨⟨gm, km, rfl, hlm, -⟩, hw2⟩
  clear tf1_0 tf1_1 tf1_2 tf1_3 tf1_4 tf1_5 tr1_0 tr1_1 tr1_2 tr1_3 tr1_4 tr1_5
  have bw2 : Below w1.heap.size w1 w2 := hw2
  have H2 := Lib.hid (H1.out.later bw2)
  have TF2 := Lib.hid (TF1.out.later bw2)
  have TR2 := Lib.hid (TR1.out.later bw2)
  have HB2 := Lib.hid (HB1.out.trans (bw2.mono HB1.out.size))
  have M2 := Lib.hid hlm
  clear hlm
  clear hw2 bw2 H1 TF1 TR1 HB1
  obtain ⟨tf2_0, tf2_1, tf2_2, tf2_3, tf2_4, tf2_5⟩ := TF2.out
  obtain ⟨tr2_0, tr2_1, tr2_2, tr2_3, tr2_4, tr2_5⟩ := TR2.out
  go_wp2_with (fail)
  refine (hR _ _ _ (H2.out) (M2.out)).mono ?_
  rintro e w3 ⟨⟨g4, k4, m4, j4, rfl, hb4, hi4, hg4, -, -⟩, hw3⟩
  have q4 : w.heap.size + 1 < g4 := by have h1 := TR2.out.lt; omega
  clear tf2_0 tf2_1 tf2_2 tf2_3 tf2_4 tf2_5 tr2_0 tr2_1 tr2_2 tr2_3 tr2_4 tr2_5
  have bw3 : Below w2.heap.size w2 w3 := hw3
  have H3 := Lib.hid (H2.out.later bw3)
  have TF3 := Lib.hid (TF2.out.later bw3)
  have TR3 := Lib.hid (TR2.out.later bw3)
  have M3 := Lib.hid (M2.out.later bw3)
  have HB3 := Lib.hid (HB2.out.trans (bw3.mono HB2.out.size))
  have BL3 := Lib.hid hb4
  clear hb4
  have IL3 := Lib.hid hi4.h
  clear hi4
  clear hw3 bw3 H2 TF2 TR2 M2 HB2
  obtain ⟨tf3_0, tf3_1, tf3_2, tf3_3, tf3_4, tf3_5⟩ := TF3.out
  obtain ⟨tr3_0, tr3_1, tr3_2, tr3_3, tr3_4, tr3_5⟩ := TR3.out
  go_wp2_with (fail)
  refine (hG _ _ _ _ _ _ _ (H3.out.later ba1) (M3.out.later ba1) (BL3.out.later ba1).h (IL3.out.later ba1)).mono ?_
  rintro e w4 ⟨rfl, hw4⟩
  have q7 : w.heap.size + 1 < w3.heap.size := TR3.out.lt
  clear tf3_0 tf3_1 tf3_2 tf3_3 tf3_4 tf3_5 tr3_0 tr3_1 tr3_2 tr3_3 tr3_4 tr3_5
  have bw4 : Below w3.heap.size w3 w4 := bel1 hw4
  have TG4 := Lib.hid (FW.n1.later hw4)
  have H4 := Lib.hid (H3.out.later bw4)
  have TF4 := Lib.hid (TF3.out.later bw4)
  have TR4 := Lib.hid (TR3.out.later bw4)
  have M4 := Lib.hid (M3.out.later bw4)
  have BL4 := Lib.hid (BL3.out.later bw4)
  have IL4 := Lib.hid (IL3.out.later bw4)
  have HB4 := Lib.hid (HB3.out.trans (bw4.mono HB3.out.size))
  clear hw4 bw4 H3 TF3 TR3 M3 BL3 IL3 HB3
  obtain ⟨tf4_0, tf4_1, tf4_2, tf4_3, tf4_4, tf4_5⟩ := TF4.out
  obtain ⟨tr4_0, tr4_1, tr4_2, tr4_3, tr4_4, tr4_5⟩ := TR4.out
  obtain ⟨tg4_0, tg4_1, tg4_2, tg4_3, tg4_4, tg4_5⟩ := TG4.out
  go_wp2_with (fail)
  refine (hD _).mono ?_
  rintro e w5 ⟨rfl, hw5⟩
  clear tf4_0 tf4_1 tf4_2 tf4_3 tf4_4 tf4_5 tr4_0 tr4_1 tr4_2 tr4_3 tr4_4 tr4_5 tg4_0 tg4_1 tg4_2 tg4_3 tg4_4 tg4_5
  have bw5 : Below w4.heap.size w4 w5 := hw5
  have H5 := Lib.hid (H4.out.later bw5)
  have TF5 := Lib.hid (TF4.out.later bw5)
  have TR5 := Lib.hid (TR4.out.later bw5)
  have M5 := Lib.hid (M4.out.later bw5)
  have BL5 := Lib.hid (BL4.out.later bw5)
  have IL5 := Lib.hid (IL4.out.later bw5)
  have TG5 := Lib.hid (TG4.out.later bw5)
  have HB5 := Lib.hid (HB4.out.trans (bw5.mono HB4.out.size))
  clear hw5 bw5 H4 TF4 TR4 M4 BL4 IL4 TG4 HB4
  obtain ⟨tf5_0, tf5_1, tf5_2, tf5_3, tf5_4, tf5_5⟩ := TF5.out
  obtain ⟨tr5_0, tr5_1, tr5_2, tr5_3, tr5_4, tr5_5⟩ := TR5.out
  obtain ⟨tg5_0, tg5_1, tg5_2, tg5_3, tg5_4, tg5_5⟩ := TG5.out
  go_wp2_with (fail)
  refine (hA _).mono ?_
  rintro e wx ⟨rfl, rfl⟩
  go_wp2_with (fail)
  have Gs := grown_setCells (w.heap.size + 1) [.int .i64 a, .int .i64 b, .int .i64 c, .slice (some ⟨g4, 0, none⟩) n k4] 0 w5
  refine bodyPost_ret (v := .tuple #[.agg #[.int .i64 a, .int .i64 b, .int .i64 c, .slice (some ⟨g4, 0, none⟩) n k4], .int .i64 t2, .bool true, .int .i64 0]) (by simp [results, Tryz.results23, go_sem, tr5_0, tr5_1, tr5_2, tr5_3, tr5_4, tr5_5, tg5_0, tg5_1, tg5_2, tg5_3, tg5_4, tg5_5]) rfl ⟨⟨g4, k4, rfl, BL5.out.grown Gs (by simp; omega), by omega⟩, ?_⟩
  have hb := HB5.out
  repeat (first | (with_reducible exact Below.refl _ _) | (with_reducible refine Below.setCell ?_ ?_ _) | (with_reducible refine Below.drew ?_) | (with_reducible refine Below.alloc ?_ ?_ _) | (with_reducible refine Below.trans ?_ (Below.mono hb ?_)) | (with_reducible exact hb.size) | omega | (simp <;> omega) | (simp <;> (have s := hb.size; omega)) | (have s0 := hb.size; (try simp at s0); (try simp); omega))

set_option maxHeartbeats 6400000 in
theorem traj_rej (a b c s x be r t2 tm d ch : Int) (ao : Option Addr) (m cap n : Nat) (L L4 : List Q) (l4 lm : List Int) (w : World) (hm : LiesO w ao L)
    (hC : ∀ W : World, LiesO W ao L → Calls Tryz.prog 39 #[.agg #[.int .i64 a, .int .i64 b, .int .i64 c, .slice ao m cap]] W fun e w' => e = .returned (.int .i64 0) ∧ Below W.heap.size W w')
    (hM : ∀ W : World, Calls Tryz.prog 40 #[.agg #[.int .i64 a, .int .i64 b, .int .i64 c], .int .i64 s] W fun e w' => RetM W.heap.size lm n tm e w' ∧ Below W.heap.size W w')
    (hR : ∀ (W : World) (gm km : Nat), LiesO W ao L → LiesI W gm 0 lm → Calls Tryz.prog 20 #[.agg #[.int .i64 a, .int .i64 b, .int .i64 c, .slice ao m cap], .slice (some ⟨gm, 0, none⟩) n km, .int .i64 x] W fun e w' => RetRun a b c n W.heap.size (L4, l4) e w' ∧ Below W.heap.size W w')
    (hG : ∀ (W : World) (gm km g k g2 k2 : Nat), LiesO W ao L → LiesI W gm 0 lm → Lies W g 0 L4 → LiesI W g2 0 l4 → Calls Tryz.prog 41 #[.agg #[.int .i64 a, .int .i64 b, .int .i64 c, .slice ao m cap], .slice (some ⟨gm, 0, none⟩) n km, .agg #[.int .i64 a, .int .i64 b, .int .i64 c, .slice (some ⟨g, 0, none⟩) n k], .slice (some ⟨g2, 0, none⟩) n k2, .int .i64 be] W fun e w' => e = .returned (.tuple #[.int .i64 ch, .int .i64 0]) ∧ Below W.heap.size W w')
    (hD : ∀ W : World, Calls Tryz.prog 42 #[.int .i64 tm, .int .i64 1073741824] W fun e w' => e = .returned (.tuple #[.int .i64 d, .int .i64 t2, .int .i64 0]) ∧ Below W.heap.size W w')
    (hA : ∀ W : World, Calls Tryz.prog 43 #[.int .i64 ch, .int .i64 d] W fun e w' => e = .returned (.tuple #[.bool false, .int .i64 0]) ∧ W = w')
    (hK : ∀ W : World, LiesO W ao L → Calls Tryz.prog 44 #[.slice ao m cap] W fun e w' => (∃ g k : Nat, e = .returned (.slice (some ⟨g, 0, none⟩) n k) ∧ LBox w' g L ∧ W.heap.size ≤ g) ∧ Below W.heap.size W w')
    : Calls Tryz.prog 23 #[.agg #[.int .i64 a, .int .i64 b, .int .i64 c, .slice ao m cap], .int .i64 s, .int .i64 x, .int .i64 be] w fun e w' => RetT a b c n w.heap.size L t2 false e w' ∧ Below w.heap.size w w' := by
  have H0 := Lib.hid hm
  clear hm
  go_enter Tryz.func23, Tryz.ntmps23
  go_wp2_with (fail)
  refine (hC _ (H0.out.later ba2)).mono ?_
  rintro e w1 ⟨rfl, hw1⟩
  have bw1 : Below w.heap.size w w1 := bel2 hw1
  have TF1 := Lib.hid (FW.n2a.later hw1)
  have TR1 := Lib.hid (FW.n2b.later hw1)
  have H1 := Lib.hid (H0.out.later bw1)
  have HB1 := Lib.hid bw1
  clear hw1 bw1 H0
  obtain ⟨tf1_0, tf1_1, tf1_2, tf1_3, tf1_4, tf1_5⟩ := TF1.out
  obtain ⟨tr1_0, tr1_1, tr1_2, tr1_3, tr1_4, tr1_5⟩ := TR1.out
  go_wp2_with (fail)
  refine (hM _).mono ?_
  rintro e w2 ⟨⟨gm, km, rfl, hlm, -⟩, hw2⟩
  clear tf1_0 tf1_1 tf1_2 tf1_3 tf1_4 tf1_5 tr1_0 tr1_1 tr1_2 tr1_3 tr1_4 tr1_5
  have bw2 : Below w1.heap.size w1 w2 := hw2
  have H2 := Lib.hid (H1.out.later bw2)
  have TF2 := Lib.hid (TF1.out.later bw2)
  have TR2 := Lib.hid (TR1.out.later bw2)
  have HB2 := Lib.hid (HB1.out.trans (bw2.mono HB1.out.size))
  have M2 := Lib.hid hlm
  clear hlm
  clear hw2 bw2 H1 TF1 TR1 HB1
  obtain ⟨tf2_0, tf2_1, tf2_2, tf2_3, tf2_4, tf2_5⟩ := TF2.out
  obtain ⟨tr2_0, tr2_1, tr2_2, tr2_3, tr2_4, tr2_5⟩ := TR2.out
  go_wp2_with (fail)
  refine (hR _ _ _ (H2.out) (M2.out)).mono ?_
  rintro e w3 ⟨⟨g4, k4, m4, j4, rfl, hb4, hi4, hg4, -, -⟩, hw3⟩
  have q4 : w.heap.size + 1 < g4 := by have h1 := TR2.out.lt; omega
  clear tf2_0 tf2_1 tf2_2 tf2_3 tf2_4 tf2_5 tr2_0 tr2_1 tr2_2 tr2_3 tr2_4 tr2_5
  have bw3 : Below w2.heap.size w2 w3 := hw3
  have H3 := Lib.hid (H2.out.later bw3)
  have TF3 := Lib.hid (TF2.out.later bw3)
  have TR3 := Lib.hid (TR2.out.later bw3)
  have M3 := Lib.hid (M2.out.later bw3)
  have HB3 := Lib.hid (HB2.out.trans (bw3.mono HB2.out.size))
  have BL3 := Lib.hid hb4
  clear hb4
  have IL3 := Lib.hid hi4.h
  clear hi4
  clear hw3 bw3 H2 TF2 TR2 M2 HB2
  obtain ⟨tf3_0, tf3_1, tf3_2, tf3_3, tf3_4, tf3_5⟩ := TF3.out
  obtain ⟨tr3_0, tr3_1, tr3_2, tr3_3, tr3_4, tr3_5⟩ := TR3.out
  go_wp2_with (fail)
  refine (hG _ _ _ _ _ _ _ (H3.out.later ba1) (M3.out.later ba1) (BL3.out.later ba1).h (IL3.out.later ba1)).mono ?_
  rintro e w4 ⟨rfl, hw4⟩
  have q7 : w.heap.size + 1 < w3.heap.size := TR3.out.lt
  clear tf3_0 tf3_1 tf3_2 tf3_3 tf3_4 tf3_5 tr3_0 tr3_1 tr3_2 tr3_3 tr3_4 tr3_5
  have bw4 : Below w3.heap.size w3 w4 := bel1 hw4
  have TG4 := Lib.hid (FW.n1.later hw4)
  have H4 := Lib.hid (H3.out.later bw4)
  have TF4 := Lib.hid (TF3.out.later bw4)
  have TR4 := Lib.hid (TR3.out.later bw4)
  have M4 := Lib.hid (M3.out.later bw4)
  have BL4 := Lib.hid (BL3.out.later bw4)
  have IL4 := Lib.hid (IL3.out.later bw4)
  have HB4 := Lib.hid (HB3.out.trans (bw4.mono HB3.out.size))
  clear hw4 bw4 H3 TF3 TR3 M3 BL3 IL3 HB3
  obtain ⟨tf4_0, tf4_1, tf4_2, tf4_3, tf4_4, tf4_5⟩ := TF4.out
  obtain ⟨tr4_0, tr4_1, tr4_2, tr4_3, tr4_4, tr4_5⟩ := TR4.out
  obtain ⟨tg4_0, tg4_1, tg4_2, tg4_3, tg4_4, tg4_5⟩ := TG4.out
  go_wp2_with (fail)
  refine (hD _).mono ?_
  rintro e w5 ⟨rfl, hw5⟩
  clear tf4_0 tf4_1 tf4_2 tf4_3 tf4_4 tf4_5 tr4_0 tr4_1 tr4_2 tr4_3 tr4_4 tr4_5 tg4_0 tg4_1 tg4_2 tg4_3 tg4_4 tg4_5
  have bw5 : Below w4.heap.size w4 w5 := hw5
  have H5 := Lib.hid (H4.out.later bw5)
  have TF5 := Lib.hid (TF4.out.later bw5)
  have TR5 := Lib.hid (TR4.out.later bw5)
  have M5 := Lib.hid (M4.out.later bw5)
  have BL5 := Lib.hid (BL4.out.later bw5)
  have IL5 := Lib.hid (IL4.out.later bw5)
  have TG5 := Lib.hid (TG4.out.later bw5)
  have HB5 := Lib.hid (HB4.out.trans (bw5.mono HB4.out.size))
  clear hw5 bw5 H4 TF4 TR4 M4 BL4 IL4 TG4 HB4
  obtain ⟨tf5_0, tf5_1, tf5_2, tf5_3, tf5_4, tf5_5⟩ := TF5.out
  obtain ⟨tr5_0, tr5_1, tr5_2, tr5_3, tr5_4, tr5_5⟩ := TR5.out
  obtain ⟨tg5_0, tg5_1, tg5_2, tg5_3, tg5_4, tg5_5⟩ := TG5.out
  go_wp2_with (fail)
  refine (hA _).mono ?_
  rintro e wx ⟨rfl, rfl⟩
  go_wp2_with (fail)
  refine (hK _ (H5.out)).mono ?_
  rintro e w6 ⟨⟨g5, k5, rfl, hb5, hg5⟩, hw6⟩
  have q5 : w.heap.size + 1 < g5 := by have h1 := TR5.out.lt; omega
  have q6 : w3.heap.size < g5 := by have h1 := TG5.out.lt; omega
  clear tf5_0 tf5_1 tf5_2 tf5_3 tf5_4 tf5_5 tr5_0 tr5_1 tr5_2 tr5_3 tr5_4 tr5_5 tg5_0 tg5_1 tg5_2 tg5_3 tg5_4 tg5_5
  have bw6 : Below w5.heap.size w5 w6 := hw6
  have H6 := Lib.hid (H5.out.later bw6)
  have TF6 := Lib.hid (TF5.out.later bw6)
  have TR6 := Lib.hid (TR5.out.later bw6)
  have M6 := Lib.hid (M5.out.later bw6)
  have BL6 := Lib.hid (BL5.out.later bw6)
  have IL6 := Lib.hid (IL5.out.later bw6)
  have TG6 := Lib.hid (TG5.out.later bw6)
  have HB6 := Lib.hid (HB5.out.trans (bw6.mono HB5.out.size))
  have BK6 := Lib.hid hb5
  clear hb5
  clear hw6 bw6 H5 TF5 TR5 M5 BL5 IL5 TG5 HB5
  obtain ⟨tf6_0, tf6_1, tf6_2, tf6_3, tf6_4, tf6_5⟩ := TF6.out
  obtain ⟨tr6_0, tr6_1, tr6_2, tr6_3, tr6_4, tr6_5⟩ := TR6.out
  obtain ⟨tg6_0, tg6_1, tg6_2, tg6_3, tg6_4, tg6_5⟩ := TG6.out
  go_wp2_with (fail)
  have hne : ¬ w3.heap.size = w.heap.size + 1 := by omega
  have hne2 : ¬ w.heap.size + 1 = w3.heap.size := by omega
  have Gs1 := grown_setCell w6 ⟨w3.heap.size, 3, none⟩ (.slice (some ⟨g5, 0, none⟩) n k5)
  have Gs := grown_setCells (w.heap.size + 1) [.int .i64 a, .int .i64 b, .int .i64 c, .slice (some ⟨g5, 0, none⟩) n k5] 0 (w6.setCell ⟨w3.heap.size, 3, none⟩ (.slice (some ⟨g5, 0, none⟩) n k5))
  refine bodyPost_ret (v := .tuple #[.agg #[.int .i64 a, .int .i64 b, .int .i64 c, .slice (some ⟨g5, 0, none⟩) n k5], .int .i64 t2, .bool false, .int .i64 0]) (by simp [results, Tryz.results23, go_sem, hne, hne2, tr6_0, tr6_1, tr6_2, tr6_3, tr6_4, tr6_5, tg6_0, tg6_1, tg6_2, tg6_3, tg6_4, tg6_5]) rfl ⟨⟨g5, k5, rfl, (BK6.out.grown Gs1 (by simp; omega)).grown Gs (by simp; omega), by omega⟩, ?_⟩
  have hb := HB6.out
  repeat (first | (with_reducible exact Below.refl _ _) | (with_reducible refine Below.setCell ?_ ?_ _) | (with_reducible refine Below.drew ?_) | (with_reducible refine Below.alloc ?_ ?_ _) | (with_reducible refine Below.trans ?_ (Below.mono hb ?_)) | (with_reducible exact hb.size) | omega | (simp <;> omega) | (simp <;> (have s := hb.size; omega)) | (have s0 := hb.size; (try simp at s0); (try simp); omega))
theorem lo_lies {W : World} {bl off : Nat} {L : List Q} (h : LiesO W (some ⟨bl, off, none⟩) L) : Lies W bl off L := by
  rcases h with rfl | ⟨b, o, he, h⟩
  · intro i x hx; simp at hx
  · simp only [Option.some.injEq, Addr.mk.injEq, and_true] at he
    obtain ⟨rfl, rfl⟩ := he
    exact h
section
variable (a b c s be : Int) (bl off cap n N x : Nat) (L : List Q) (ns : List Int)
theorem tj_C (r : Int) (ao : Option Addr) (hr : numsR a b c L ns r) (hL : L.length = n) (hlen : n ≤ 1000000) (W : World) (h : LiesO W ao L) : Calls Tryz.prog 39 #[.agg #[.int .i64 a, .int .i64 b, .int .i64 c, .slice ao n cap]] W fun e w' => e = .returned (.int .i64 r) ∧ Below W.heap.size W w' := by
  have := checkField_any a b c r ao cap L ns W h hr (by omega)
  rwa [hL] at this
theorem tj_R (lm : List Int) (hst : St a b c n L lm) (hN : (N : Int) = a * b * c) (hx : x ≤ 100) (W : World) (gm km : Nat) (h : LiesO W (some ⟨bl, off, none⟩) L) (h2 : LiesI W gm 0 lm) : Calls Tryz.prog 20 #[.agg #[.int .i64 a, .int .i64 b, .int .i64 c, .slice (some ⟨bl, off, none⟩) n cap], .slice (some ⟨gm, 0, none⟩) n km, .int .i64 x] W fun e w' => RetRun a b c n W.heap.size (rn a b c (L, lm) x) e w' ∧ Below W.heap.size W w' := by
  have := run_ok a b c bl off cap gm 0 km n N x L lm W (lo_lies h) h2 hst hN hx
  rwa [hst.e] at this
end
theorem tj_D (s : Int) (n : Nat) (hs : IsSeed s) (W : World) : Calls Tryz.prog 42 #[.int .i64 (adm s (n * 3)), .int .i64 1073741824] W fun e w' => e = .returned (.tuple #[.int .i64 (drw (adm s (n * 3)) 1073741824), .int .i64 (adv (adm s (n * 3))), .int .i64 0]) ∧ Below W.heap.size W w' :=
  draw_any (adm s (n * 3)) 1073741824 _ _ 0 W (.inl ⟨adm_seed hs _, ⟨by omega, by omega⟩, rfl, rfl, rfl⟩)
theorem trajectory_ok (a b c s be : Int) (bl off cap n N x : Nat) (L : List Q) (ns : List Int) (w : World) (h : Lies w bl off L) (hr : numsR a b c L ns 0) (hL : L.length = n) (hN : (N : Int) = a * b * c) (hs : IsSeed s) (hx : x ≤ 100) (b0 : 0 ≤ be) (b1 : be ≤ 10) : Calls Tryz.prog 23 #[.agg #[.int .i64 a, .int .i64 b, .int .i64 c, .slice (some ⟨bl, off, none⟩) n cap], .int .i64 s, .int .i64 x, .int .i64 be] w fun e w' => RetT a b c n w.heap.size (tfl a b c n N L s x be) (adv (adm s (n * 3))) (tac a b c n N L s x be) e w' ∧ Below w.heap.size w w' := by
  have hst := St_moms (s := s) hr hL
  have hst2 := hst.rn x
  have h48 : n ≤ 48 := by have := hst.f.n; have := hst.e; have := hst.f.z.p; omega
  have hn : (n : Int) = 3 * (a * b * c) := by have := hst.f.n; have := hst.e; omega
  have hn0 : 0 < n := by have := hst.f.n; obtain ⟨-, -, p3, -⟩ := mul_rng hst.f.z.a1 hst.f.z.a4 hst.f.z.b1 hst.f.z.b4 hst.f.z.c1 hst.f.z.c4; omega
  have hC := tj_C a b c cap n L ns 0 (some ⟨bl, off, none⟩) hr hL (by omega)
  have hM := fun W : World => momenta_ok a b c s n W hst.f.z hn hs
  have hR := tj_R a b c bl off cap n N x L _ hst hN hx
  have hG := fun (W : World) (gm km g k g2 k2 : Nat) (h1 : LiesO W (some ⟨bl, off, none⟩) L) (h2 : LiesI W gm 0 (moms s (n * 3))) (h3 : Lies W g 0 (rn a b c (L, moms s (n * 3)) x).1) (h4 : LiesI W g2 0 (rn a b c (L, moms s (n * 3)) x).2) => changeOf_ok a b c bl off cap gm 0 km g k g2 k2 n N L _ _ _ be W (lo_lies h1) h2 h3 h4 hst hst2 hN b0 b1
  have hA : ∀ q : Bool, tac a b c n N L s x be = q → ∀ W : World, Calls Tryz.prog 43 #[.int .i64 (enr a b c (rn a b c (L, moms s (n * 3)) x).1 N (rn a b c (L, moms s (n * 3)) x).2 be - enr a b c L N (moms s (n * 3)) be), .int .i64 (drw (adm s (n * 3)) 1073741824)] W fun e w' => e = .returned (.tuple #[.bool q, .int .i64 0]) ∧ W = w' := fun q hq W => accept_any _ _ 0 q W (.inl ⟨drw_rng _, hq.symm, rfl⟩)
  cases hq : tac a b c n N L s x be with
  | true =>
    have := traj_acc a b c s x be 0 (adv (adm s (n * 3))) (adm s (n * 3)) (drw (adm s (n * 3)) 1073741824) _ (some ⟨bl, off, none⟩) n cap n L (rn a b c (L, moms s (n * 3)) x).1 (rn a b c (L, moms s (n * 3)) x).2 (moms s (n * 3)) w (.inr ⟨bl, off, rfl, h⟩) hC hM hR hG (tj_D s n hs) (hA true hq)
    unfold tfl
    rw [if_pos hq]
    exact this
  | false =>
    have hK : ∀ W : World, LiesO W (some ⟨bl, off, none⟩) L → Calls Tryz.prog 44 #[.slice (some ⟨bl, off, none⟩) n cap] W fun e w' => (∃ g k : Nat, e = .returned (.slice (some ⟨g, 0, none⟩) n k) ∧ LBox w' g L ∧ W.heap.size ≤ g) ∧ Below W.heap.size W w' := fun W h1 => by
      have := clone_some bl off cap L W (lo_lies h1) (by omega) (by omega)
      rw [hL] at this
      exact this.mono fun e w' ⟨g, k, h1, h2, h3, h4⟩ => ⟨⟨g, k, h1, h2, h3⟩, h4⟩
    have := traj_rej a b c s x be 0 (adv (adm s (n * 3))) (adm s (n * 3)) (drw (adm s (n * 3)) 1073741824) _ (some ⟨bl, off, none⟩) n cap n L (rn a b c (L, moms s (n * 3)) x).1 (rn a b c (L, moms s (n * 3)) x).2 (moms s (n * 3)) w (.inr ⟨bl, off, rfl, h⟩) hC hM hR hG (tj_D s n hs) (hA false hq) hK
    unfold tfl
    rw [if_neg (by rw [hq]; decide)]
    exact this
theorem trajectory_bad (a b c r0 s x be q : Int) (ao : Option Addr) (cap n : Nat) (L : List Q) (ns : List Int) (w : World) (h : LiesO w ao L) (hr : numsR a b c L ns r0) (hL : L.length = n) (hlen : n ≤ 100) (hq : trR r0 s x be q) : Calls Tryz.prog 23 #[.agg #[.int .i64 a, .int .i64 b, .int .i64 c, .slice ao n cap], .int .i64 s, .int .i64 x, .int .i64 be] w fun e w' => e = .returned (.tuple #[.agg #[.int .i64 0, .int .i64 0, .int .i64 0, .slice none 0 0], .int .i64 0, .bool false, .int .i64 q]) ∧ Below w.heap.size w w' := by
  have hC := tj_C a b c cap n L ns r0 ao hr hL (by omega)
  rcases hq with ⟨h0, rfl⟩ | ⟨rfl, hb, rfl⟩
  · exact traj_field a b c s x be q 0 0 0 0 ao n cap n L [] [] [] w h h0 hC
  · have hst := St_moms (s := s) hr hL
    have hn : (n : Int) = 3 * (a * b * c) := by have := hst.f.n; have := hst.e; omega
    obtain ⟨bl, off, rfl, h2⟩ := fld_some (numsR_smR hr).1 h
    obtain ⟨N, hN⟩ := Int.eq_ofNat_of_zero_le (show 0 ≤ a * b * c by obtain ⟨-, -, p3, -⟩ := mul_rng hst.f.z.a1 hst.f.z.a4 hst.f.z.b1 hst.f.z.b4 hst.f.z.c1 hst.f.z.c4; omega)
    by_cases hs : IsSeed s
    · have hM := fun W : World => momenta_ok a b c s n W hst.f.z hn hs
      by_cases hx : 0 ≤ x ∧ x ≤ 100
      · have hbe : ¬ (0 ≤ be ∧ be ≤ 10) := fun h => hb ⟨hs, hx, h⟩
        obtain ⟨k', rfl⟩ := Int.eq_ofNat_of_zero_le hx.1
        have hR := tj_R a b c bl off cap n N k' L _ hst hN.symm (by omega)
        have hG := fun (W : World) (gm km g k g2 k2 : Nat) (h1 : LiesO W (some ⟨bl, off, none⟩) L) (h2 : LiesI W gm 0 (moms s (n * 3))) (_ : Lies W g 0 (rn a b c (L, moms s (n * 3)) k').1) (_ : LiesI W g2 0 (rn a b c (L, moms s (n * 3)) k').2) => changeOf_arg a b c bl off cap gm 0 km n n (some ⟨g2, 0, none⟩) L _ be g k k2 W (lo_lies h1) h2 hst hbe
        exact traj_beta a b c s k' be 0 0 (adm s (n * 3)) 0 0 (some ⟨bl, off, none⟩) n cap n L (rn a b c (L, moms s (n * 3)) k').1 (rn a b c (L, moms s (n * 3)) k').2 (moms s (n * 3)) w h hC hM hR hG
      · have hR : ∀ (W : World) (gm km : Nat), LiesO W (some ⟨bl, off, none⟩) L → LiesI W gm 0 (moms s (n * 3)) → Calls Tryz.prog 20 #[.agg #[.int .i64 a, .int .i64 b, .int .i64 c, .slice (some ⟨bl, off, none⟩) n cap], .slice (some ⟨gm, 0, none⟩) n km, .int .i64 x] W fun e w' => e = .returned (.tuple #[.agg #[.int .i64 0, .int .i64 0, .int .i64 0, .slice none 0 0], .slice none 0 0, .int .i64 1]) ∧ Below W.heap.size W w' := fun W gm km h1 h2 => by
          have := run_bad a b c 0 0 x 1 (some ⟨bl, off, none⟩) (some ⟨gm, 0, none⟩) cap km n L _ _ W h1 (.inr ⟨gm, 0, rfl, h2⟩) hst.m (St_nums hst).1 (St_nums hst).2 (.inr ⟨rfl, hx, rfl⟩) (by omega)
          rwa [hL] at this
        exact traj_steps a b c s x be 0 0 (adm s (n * 3)) 0 0 (some ⟨bl, off, none⟩) n cap n L [] [] (moms s (n * 3)) w h hC hM hR
    · have hM := fun W : World => momenta_bad a b c s W (.inr ⟨hst.f.z, hs⟩)
      exact traj_seed a b c s x be 0 0 0 0 0 (some ⟨bl, off, none⟩) n cap n L [] [] [] w h hC hM
end Go.Proofs.YtilbhcjnkmeecaaGreat
