/- Small units that are drawn one after another, as the program makes them.
Conditions: those written at each theorem. -/
import Derived.Test.YthloceljgmmdbaaDrawO
import Derived.Test.YthloceljgmmdbaaSmall
import Derived.Test.YthloceljgmmdbaaCold
namespace Go.Proofs.Ythloceljgmmdbaa
set_option linter.unusedVariables false
set_option linter.unusedSimpArgs false
set_option maxRecDepth 1000000
open Go.RowKit
open Um Tm Cm

/-- the seed behind k draws -/
def advN (s : Int) : Nat → Int
  | 0 => s
  | k + 1 => adv (advN s k)
theorem advN_seed {s : Int} (h : IsSeed s) : ∀ k, IsSeed (advN s k)
  | 0 => h
  | k + 1 => adv_seed (advN_seed h k)
/-- the units that k draws give -/
def uns (s : Int) : Nat → List Q
  | 0 => []
  | k + 1 => uns s k ++ [small (drw (advN s k) 24)]
theorem uns_len (s : Int) : ∀ k, (uns s k).length = k
  | 0 => rfl
  | k + 1 => by simp [uns, uns_len s k]
theorem uns_flat (s : Int) (k : Nat) : (uns s (k + 1)).flatMap uc = (uns s k).flatMap uc ++ uc (small (drw (advN s k) 24)) := by
  simp [uns]

/-- a generator in its box, to be read and written -/
structure GBox (w : World) (B : Nat) (s : Int) : Prop where
  c : w.cell? ⟨B, 0, none⟩ = some (.int .i64 s)
  f : w.frozen? ⟨B, 0, none⟩ = false
  lt : B < w.heap.size
theorem GBox.later {w w1 : World} {B : Nat} {s : Int} (h : GBox w B s) (hb : Below w.heap.size w w1) : GBox w1 B s :=
  ⟨(hb.cell h.lt).trans h.c, (hb.frozen (p := ⟨B, 0, none⟩) h.lt).trans h.f, Nat.lt_of_lt_of_le h.lt hb.size⟩
theorem GBox.grown {w w1 : World} {B : Nat} {s : Int} {row : Option Nat} (h : GBox w B s) (hg : w.grownBy w1 row) (hne : some B ≠ row) : GBox w1 B s :=
  ⟨hg.cell h.c hne, (World.frozen?_of_block (a := ⟨B, 0, none⟩) (hg.block B h.lt hne)).trans h.f, Nat.lt_of_lt_of_le h.lt hg.size⟩
theorem GBox.set {w : World} {B : Nat} {s : Int} (h : GBox w B s) (t : Int) : GBox (w.setCell ⟨B, 0, none⟩ (.int .i64 t)) B t :=
  ⟨World.cell?_setCell_same _ _ _ h.c, by rw [World.frozen?_setCell]; exact h.f, by simp [World.setCell]; exact h.lt⟩

def RetU (m : Nat) (L : List Q) (e : Ending) (w' : World) : Prop := ∃ g k : Nat, e = .returned (.tuple #[.slice (some ⟨g, 0, none⟩) L.length k, .int .i64 0]) ∧ Lies w' g 0 L ∧ m ≤ g
set_option maxHeartbeats 3200000 in
theorem chosen_any (B n : Nat) (s : Int) (w : World) (hs : IsSeed s) (hn0 : 0 < n) (hn : n ≤ 48) (hg : GBox w B s) : Calls Try.prog 40 #[.int .i64 n, .func (.func 27) #[.pointer (some ⟨B, 0, none⟩)] #[]] w fun e w' => RetU B (uns s n) e w' ∧ GBox w' B (advN s n) ∧ Below B w w' := by
  obtain ⟨i0, hi, hz0, hz1, hz2⟩ := info_parts infoU
  have mk : ∀ W : World, (Instr.makeSlice 32 (.int .i64 0) (.int .i64 n)).run Try.prog W = .ok (.slice (some ⟨W.heap.size, 0, none⟩) 0 n) (W.alloc (.cells (madeCells (uc zero).toArray (n * 5)) 59)) := fun W => by
    have := run_make (P := Try.prog) W 32 59 i0 _ Try.underlying32 hi hz0 .i64 .i64 0 n (by omega) (by omega) (by rw [hz2]; omega) (by omega)
    rw [this, hz1]
    rfl
  have MS := Lib.hid (fun W : World => World.ownsRow_made (base := B + 1) (e := 59) (size := 5) W (madeCells (uc zero).toArray (n * 5)) n)
  have HG := Lib.hid hg
  have HS := Lib.hid (fun k => advN_seed hs k)
  have HF := Lib.hid (uns_flat s)
  have HL := Lib.hid (uns_len s)
  have HA := Lib.hid (fun k : Nat => (show advN s (k + 1) = adv (advN s k) from rfl))
  have hlt := hg.lt
  have hmf : ∀ (fn : Fn) (first cap : Array Value) (w : World), (Instr.makeFunc fn first cap).run Try.prog w = .ok (.func fn first cap) w := fun _ _ _ _ => rfl
  clear hg hs
  go_enter Try.func40, Try.ntmps40
  go_wp2
  have o1 := MS.out w (by omega) (by unfold maxLen; omega) (by simp [madeCells])
  have g1 := HG.out.later ((Below.refl _ _).alloc (Nat.le_refl _) (.cells (madeCells (uc zero).toArray (n * 5)) 59))
  have hB : Below B w (w.alloc (.cells (madeCells (uc zero).toArray (n * 5)) 59)) := (Below.refl _ _).alloc (by omega) _
  go_loopw [6, 7, 8, 12] (fun f _ _ q wr => ∃ (k : Nat) (v : Value), k ≤ n ∧ q = .int .i64 k ∧ v = f ∧ Hid (wr.ownsRow (B + 1) 59 5 v k ((uns s k).flatMap uc)) ∧ GBox wr B (advN s k) ∧ Below B w wr) (fun _ _ _ q _ => n - (intOf q).toNat)
  case atStart => exact ⟨0, _, by omega, rfl, rfl, Lib.hid o1, g1, hB⟩
  case round =>
    obtain ⟨k, v, hk, rfl, rfl, hown, hgb, hb⟩ := hrel
    clear o1 g1 hB
    have hbs := hb.size
    have HGB := Lib.hid hgb
    by_cases hkn : k < n
    · have i1 : (k : Int) < (n : Int) := by omega
      obtain ⟨gc, gf, gl⟩ := hgb
      have c1 := fun W hc hf => below_any B (advN s k) 24 W (HS.out k) (by omega) (by omega) hc hf
      obtain ⟨r1, r2⟩ := drw_rng (s := advN s k) (n := 24) (by omega)
      have c2 := fun W : World => small_any (drw (advN s k) 24) W r1 (by omega)
      have hf := HF.out k
      have ha := HA.out k
      rw [← ha] at c1
      have HFK := Lib.hid hf
      clear hf r1 r2 ha
      generalize small (drw (advN s k) 24) = y at *
      generalize drw (advN s k) 24 = d at *
      obtain ⟨t, ht⟩ : ∃ t, advN s (k + 1) = t := ⟨_, rfl⟩
      rw [ht] at c1
      have HT := Lib.hid ht
      clear ht
      go_wp2_with (first | ((with_reducible refine (c1 _ gc gf).mono ?_); clear c1; rintro e wa ⟨rfl, rfl⟩) | ((with_reducible refine (c2 _).mono ?_); clear c2; rintro e w2 ⟨rfl, hw2⟩) | (at_builtin; refine wpList_append_own _ rfl (.tmp 23) (.tmp 25) 32 rfl (B + 1) 59 i0 _ 5 40 Try.underlying32 hi hz0 hz1 hz2 rfl (by decide) v k ((uns s k).flatMap uc) rfl (((owned_later (ownsRow_setCell_below hown.out (a := ⟨B, 0, none⟩) (Nat.lt_succ_self B) _) hw2).alloc _).alloc _) ⟨w2.heap.size + 1, 0, none⟩ 1 1 (uc y) rfl rfl (five_cells rfl (by simp [go_sem]) (by simp [go_sem]) (by simp [go_sem]) (by simp [go_sem]) (by simp [go_sem])) (five_one rfl) (by unfold maxLen; omega) (by omega) (by have := hw2.size; simp [World.setCell] at this; simp; omega) ?_; intro v' w4 hown4 hgrow4 _))
      have hfr := owned_from hown.out
      have hne := owned_ne hown.out (b := B) (by omega)
      have sz2 : wr.heap.size ≤ w2.heap.size := by have := hw2.size; simp [World.setCell] at this; omega
      have g4 := ((((HGB.out.set t).later hw2).later ((Below.refl _ _).alloc (Nat.le_refl _) _)).later ((Below.refl _ _).alloc (Nat.le_refl _) _)).grown hgrow4 hne
      have b2 : Below B w w2 := (hb.setCell (p := ⟨B, 0, none⟩) (Nat.le_refl B) (.int .i64 t)).trans (hw2.mono (by simp [World.setCell]; omega))
      have b4 := ((b2.alloc (by omega) _).alloc (by simp; omega) _).grown hgrow4 (by simp; omega) (fun j hj => by have := hfr j hj; omega)
      have ho : w4.ownsRow (B + 1) 59 5 v' (k + 1) ((uns s (k + 1)).flatMap uc) := by rw [HFK.out]; exact hown4
      clear hown4 hgrow4 hown hw2 HGB
      go_wp2
      exact ⟨⟨k + 1, _, by omega, by go_num, rfl, Lib.hid ho, by rw [HT.out]; exact g4, b4⟩, by simp [intOf]; omega⟩
    · obtain rfl : k = n := by omega
      obtain ⟨gv, cv, rfl, hgv⟩ := owned5_some hown.out hn0
      have hli : Lies wr gv 0 (uns s k) := owned_lies (T := 59) (base := B + 1) (cap := cv) (by rw [HL.out k]; exact hown.out)
      have HLI := Lib.hid hli
      have HLK := HL.out k
      have HLH := Lib.hid HLK
      clear hown hli hgb HLK
      go_wp2
      go_ret2
      exact ⟨⟨gv, cv, by rw [HLH.out]; rfl, HLI.out, by omega⟩, HGB.out, hb⟩
end Go.Proofs.Ythloceljgmmdbaa
