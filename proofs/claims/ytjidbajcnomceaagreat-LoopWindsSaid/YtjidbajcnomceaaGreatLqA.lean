/- The plaquettes of a field, on both sides: what a good field and a bad one lead to.
Conditions: those written at each theorem. -/
import Derived.Test.YtjidbajcnomceaaGreatPlaqA
import Derived.Test.YtjidbajcnomceaaGreatLtC
import Derived.Test.YtjidbajcnomceaaGreatLmA
import Derived.Test.YtjidbajcnomceaaGreatLooA
import Derived.Test.YtjidbajcnomceaaGreatIsSm
import Derived.Test.YtjidbajcnomceaaGreatIBox
import Derived.Test.YtjidbajcnomceaaGreatMathA
namespace Go.Proofs.YtjidbajcnomceaaGreat
set_option linter.unusedVariables false
set_option linter.unusedSimpArgs false
set_option maxRecDepth 1000000
open Go.RowKit
open Um Tm

set_option maxHeartbeats 800000 in
theorem refPlaquettes_bad (a b c r : Int) (ao : Option Addr) (cap : Nat) (L : List Q) (w : World) (h : LiesO w ao L) (hr : fldR a b c L r) (hlen : L.length ≤ 1000000) (hne : (r == 0) = false) (hne' : (r != 0) = true) :
    Calls Tryz.prog 36 #[.agg #[.int .i64 a, .int .i64 b, .int .i64 c, .slice ao L.length cap]] w fun e w' => e = .returned (.tuple #[.slice none 0 0, .int .i64 r]) ∧ Below w.heap.size w w' := by
  have cV := fun (W : World) (h : LiesO W ao L) => refValidateF_any a b c r ao cap L W h hr hlen
  have H := Lib.hid h
  clear h hr
  go_enter Tryz.func36, Tryz.ntmps36
  go_wp2_with ((with_reducible refine (cV _ (H.out.later (by repeat (first | (with_reducible exact Below.refl _ _) | (with_reducible refine Below.setCell ?_ ?_ _) | (with_reducible refine Below.drew ?_) | (with_reducible refine Below.alloc ?_ ?_ _) | omega | (simp <;> omega))))).mono ?_); rintro e w1 ⟨rfl, hw1⟩)
  go_ret2
  exact ⟨rfl, by repeat (first | (with_reducible exact Below.refl _ _) | (with_reducible refine Below.setCell ?_ ?_ _) | (with_reducible refine Below.drew ?_) | (with_reducible refine Below.alloc ?_ ?_ _) | (with_reducible refine Below.trans ?_ (Below.mono hw1 ?_)) | (with_reducible exact hw1.size) | omega | (simp <;> omega) | (simp <;> (have s := hw1.size; omega)) | (have s0 := hw1.size; (try simp at s0); (try simp); omega))⟩

theorem plaquettes_lies (a b c : Int) (bl off cap N : Nat) (L : List Q) (w : World) (hl : Lies w bl off L) (hF : Fl a b c L) (hN : (N : Int) = a * b * c) :
    Calls Tryz.prog 35 #[.agg #[.int .i64 a, .int .i64 b, .int .i64 c, .slice (some ⟨bl, off, none⟩) L.length cap]] w fun e w' => ∃ g k : Nat, e = .returned (.tuple #[.slice (some ⟨g, 0, none⟩) (3 * N) k, .int .i64 0]) ∧ Lies w' g 0 (pqs a b c L (3 * N)) ∧ Below w.heap.size w w' := by
  have hp := hF.z.p
  have hn := hF.n
  obtain ⟨-, -, p3, -⟩ := mul_rng hF.z.a1 hF.z.a4 hF.z.b1 hF.z.b4 hF.z.c1 hF.z.c4
  refine (plaquettes_good a b c bl off cap N L w hl hF (Fl_fldR hF) hF.z hN (by omega)).mono ?_
  rintro e w' ⟨v, he, hown, hb⟩
  rw [pqs_plqs] at hown
  obtain ⟨g, k, rfl, -⟩ := owned5_some hown (by omega)
  exact ⟨g, k, he, owned_lies (T := 62) (base := w.heap.size) (cap := k) (by rw [pqs_len]; exact hown), hb⟩

end Go.Proofs.YtjidbajcnomceaaGreat

/- The traces of all plaquettes, and their mean, as the program and the document's answers make them.
Conditions: the lists lie in memory as it is written at each theorem. -/
namespace Go.Proofs.YtjidbajcnomceaaGreat
set_option linter.unusedVariables false
set_option linter.unusedSimpArgs false
set_option maxRecDepth 1000000
open Go.RowKit
open Um Tm Lm

theorem infoRt : (Tryz.prog.info? 32).map (fun i => (i.zero, i.size, i.bytes)) = some (some (.agg #[.int .i64 0, .int .i64 0]), 2, 16) := by kernel_rfl
theorem rt_ones (x y : Int) : ∀ u ∈ [vi x, vi y], u.oneCell' = true := fun u hu => by
  simp at hu
  rcases hu with rfl | rfl <;> rfl
theorem rl_take {l : List (Int × Int)} {k : Nat} (h : k < l.length) : (rl (l.take (k + 1))).map vi = (rl (l.take k)).map vi ++ [vi l[k].1, vi l[k].2] := by
  unfold rl
  rw [take_flat _ l k h, List.map_append]
  rfl
theorem rl_owned {w : World} {base : Nat} {v : Value} {n : Nat} {l : List (Int × Int)} (h : w.ownsRow base 32 2 v n ((rl l).map vi)) (hl : l.length = n) : ∃ ao cap, v = .slice ao n cap ∧ LiesOI w ao (rl l) := by
  have hc := h.2
  rcases hc with ⟨rfl, h0⟩ | ⟨g, cap, cur, rfl, hg, _⟩
  · refine ⟨none, 0, by rw [h0], .inl ?_⟩
    rw [h0] at hl
    rw [List.length_eq_zero_iff.1 hl]
    rfl
  · refine ⟨_, cap, rfl, .inr ⟨g, 0, rfl, fun i x hx => ?_⟩⟩
    have hi : i < (rl l).length := (List.getElem?_eq_some_iff.1 hx).1
    rw [rl_len] at hi
    rw [Nat.zero_add, h.cellAt i (by omega), List.getElem?_map, hx]
    rfl
theorem lies_grownL {w w1 : World} {b off : Nat} {L : List Q} {row : Option Nat} (h : Lies w b off L) (hg : w.grownBy w1 row) (ne : some b ≠ row) : Lies w1 b off L := fun i x hx => by
  obtain ⟨x0, x1, x2, x3, x4⟩ := h i x hx
  exact ⟨hg.cell x0 ne, hg.cell x1 ne, hg.cell x2 ne, hg.cell x3 ne, hg.cell x4 ne⟩
/-- traces of units that lie in a row -/
theorem pq_ups (a b c : Int) (L : List Q) (i : Nat) : ∃ l, l.length = 4 ∧ (∀ t ∈ l, IsStep t) ∧ pq a b c L i = al a b c L ((i : Int) / 3) l := ⟨_, pth_len _, pth_steps _, rfl⟩
theorem pq_V {a b c : Int} {L : List Q} (hF : Fl a b c L) {i : Nat} (hi : (i : Int) < 3 * (a * b * c)) : V (pq a b c L i) ∧ Rt 2 (tr (pq a b c L i)) := by
  obtain ⟨l, h4, hs, e⟩ := pq_ups a b c L i
  have h := hF.ups ((i : Int) / 3) l (by omega) (by omega) hs
  rw [e]
  exact ⟨few_V _ h (by rw [ups_len]; omega), tr_rt _ h (by rw [ups_len]; omega)⟩
def trs (a b c : Int) (L : List Q) (k : Nat) : List (Int × Int) := (pqs a b c L k).map tr
theorem trs_len (a b c : Int) (L : List Q) (k : Nat) : (trs a b c L k).length = k := by simp [trs, pqs_len]
theorem trs_Rt {a b c : Int} {L : List Q} (hF : Fl a b c L) {k : Nat} (hk : (k : Int) ≤ 3 * (a * b * c)) : ∀ r ∈ trs a b c L k, Rt 2 r := by
  intro r hr
  simp only [trs, pqs, List.mem_map, List.mem_range] at hr
  obtain ⟨x, ⟨i, hi, rfl⟩, rfl⟩ := hr
  exact (pq_V hF (by omega)).2
theorem pqs_V {a b c : Int} {L : List Q} (hF : Fl a b c L) {k : Nat} (hk : (k : Int) ≤ 3 * (a * b * c)) : ∀ x ∈ pqs a b c L k, V x := by
  intro x hx
  simp only [pqs, List.mem_map, List.mem_range] at hx
  obtain ⟨i, hi, rfl⟩ := hx
  exact (pq_V hF (by omega)).1
set_option maxHeartbeats 6400000 in
theorem tracesL_ok (a b c : Int) (bl off cap N : Nat) (L : List Q) (w : World) (hl : Lies w bl off L) (hF : Fl a b c L) (hN : (N : Int) = a * b * c) : Calls Tryz.prog 12 #[.agg #[.int .i64 a, .int .i64 b, .int .i64 c, .slice (some ⟨bl, off, none⟩) L.length cap]] w fun e w' => (∃ (ao : Option Addr) (k : Nat), e = .returned (.tuple #[.slice ao (3 * N) k, .int .i64 0]) ∧ LiesOI w' ao (rl (trs a b c L (3 * N)))) ∧ Below w.heap.size w w' := by
  obtain ⟨-, -, p3, -⟩ := mul_rng hF.z.a1 hF.z.a4 hF.z.b1 hF.z.b4 hF.z.c1 hF.z.c4
  have hp16 := hF.z.p
  have c2 := fun (W : World) (h : Lies W bl off L) => plaquettes_lies a b c bl off cap N L W h hF hN
  have hPV := pqs_V hF (k := 3 * N) (by omega)
  have hPL := pqs_len a b c L (3 * N)
  obtain ⟨i0, hi, hz0, hz1, hz2⟩ := info_parts infoRt
  have H := Lib.hid hl
  have n48 : 3 * N ≤ 48 := by omega
  have m0 : 0 < 3 * N := by omega
  have hl2 : 3 * N ≤ maxLen := by unfold maxLen; omega
  have hl3 : i0.bytes * (3 * N) ≤ 281474976710656 := by rw [hz2]; omega
  unfold trs
  clear hl hF hN p3 hp16
  generalize pqs a b c L (3 * N) = P at *
  generalize 3 * N = m at *
  obtain ⟨T, hT⟩ : ∃ T, T = P.map tr := ⟨_, rfl⟩
  rw [← hT]
  have c3 : ∀ (k : Nat) (hk : k < P.length) (hk2 : k < T.length) (W : World), Calls Tryz.prog 31 #[.agg #[.int .i64 P[k].a, .int .i64 P[k].b, .int .i64 P[k].c, .int .i64 P[k].d, .int .i64 P[k].n]] W fun e w' => e = .returned (.tuple #[.agg #[.int .i64 (T[k]).1, .int .i64 (T[k]).2], .int .i64 0]) ∧ Below W.heap.size W w' := fun k hk hk2 W => by
    subst hT
    simp only [List.getElem_map]
    exact trace_ok _ W (hPV _ (List.getElem_mem hk))
  have hTL : T.length = P.length := by rw [hT]; simp
  clear hT
  have HC := Lib.hid c3
  have HL := Lib.hid hPL
  have HTL := Lib.hid hTL
  have H0 := Lib.hid (show (rl (T.take 0)).map vi = [] by rw [List.take_zero]; rfl)
  clear hPV hPL c3 hTL
  go_enter Tryz.func12, Tryz.ntmps12
  go_wp2_with (first
    | ((with_reducible refine (c2 _ (H.out.later (by repeat (first | (with_reducible exact Below.refl _ _) | (with_reducible refine Below.setCell ?_ ?_ _) | (with_reducible refine Below.drew ?_) | (with_reducible refine Below.alloc ?_ ?_ _) | omega | (simp <;> omega))))).mono ?_); clear c2; rintro e w2 ⟨g, kg, rfl, hg, hw2⟩; have HG := Lib.hid hg; clear hg; have s2 := hw2.size)
    | (at_make; refine wpList_make_own _ rfl _ _ 37 rfl w2.heap.size 32 i0 _ 2 Tryz.underlying37 hi hz0 hz1 _ _ _ m rfl rfl rfl hl3 hl2 (Nat.le_refl _) ?_; intro w3 hown hgrow))
  have b0 : Below w.heap.size w w2 := by repeat (first | (with_reducible exact Below.refl _ _) | (with_reducible refine Below.setCell ?_ ?_ _) | (with_reducible refine Below.drew ?_) | (with_reducible refine Below.alloc ?_ ?_ _) | (with_reducible refine Below.trans ?_ (Below.mono hw2 ?_)) | (with_reducible exact hw2.size) | omega | (simp <;> omega) | (simp <;> (have s := hw2.size; omega)) | (have s0 := hw2.size; (try simp at s0); (try simp); omega))
  have b2 : Below w2.heap.size w2 w3 := (Below.refl _ _).grown hgrow (by omega) (by simp)
  have HG3 := Lib.hid (HG.out.later b2)
  have s4 : w2.heap.size + 1 ≤ w3.heap.size := by
    have := (hown.lt w2.heap.size rfl).2
    omega
  have s5 : w.heap.size + 1 ≤ w2.heap.size := by simp at s2; omega
  have b3 : Below w.heap.size w w3 := b0.trans (b2.mono b0.size)
  have glt : g < w2.heap.size := by
    have hp : 0 < P.length := by rw [HL.out]; omega
    have := HG.out 0 _ (List.getElem?_eq_getElem hp)
    exact World.block_lt_of_cell? w2 _ this.1
  clear hgrow hw2 b2 HG s2 b0
  have HB0 := Lib.hid b3
  generalize w2.heap.size = B at *
  go_loopw [6, 8, 9, 10, 24] (fun f _ _ _ q wr => ∃ k : Nat, k ≤ m ∧ q = .int .i64 k ∧ f = .slice (some ⟨B, 0, none⟩) k m ∧ Hid (wr.ownsRow B 32 2 (.slice (some ⟨B, 0, none⟩) k m) k ((rl (T.take k)).map vi)) ∧ Hid (Lies wr g 0 P) ∧ Below w.heap.size w wr ∧ B + 1 ≤ wr.heap.size) (fun _ _ _ _ q _ => m - (intOf q).toNat)
  case atStart => exact ⟨0, by omega, rfl, rfl, Lib.hid (by rw [H0.out]; exact hown), HG3, b3, s4⟩
  case round =>
    obtain ⟨k, hk, rfl, rfl, hown, hgr, hb, hgs⟩ := hrel
    clear b3 HG3
    have hbs := hb.size
    by_cases hlt : k < m
    · have i1 : (k : Int) < (m : Int) := by omega
      have i2 : k < P.length := by have := HL.out; omega
      have i3 : k < T.length := by have := HTL.out; omega
      obtain ⟨l0, l1, l2, l3, l4⟩ := hgr.out k _ (List.getElem?_eq_getElem i2)
      simp only [Nat.zero_add] at l0 l1 l2 l3 l4
      have glr := World.block_lt_of_cell? wr _ l0
      have q1 := rl_take i3
      have d0 := HC.out k i2 i3
      generalize P[k] = x at *
      generalize T[k] = y at *
      have Q1 := Lib.hid q1
      clear q1 i2 i3
      go_wp2_with (first
        | ((with_reducible refine (d0 _).mono ?_); clear d0; rintro e w4 ⟨rfl, hw4⟩; have hc4 := Tail.cells hw4; have z4 := Nat.lt_of_lt_of_le (n := wr.heap.size) (by simp) hw4.size; have s6 := hw4.size; have b4 : Below w.heap.size w w4 := (by repeat (first | (with_reducible exact Below.refl _ _) | (with_reducible refine Below.setCell ?_ ?_ _) | (with_reducible refine Below.drew ?_) | (with_reducible refine Below.alloc ?_ ?_ _) | (with_reducible refine Below.trans ?_ (Below.mono hw4 ?_)) | (with_reducible refine Below.trans ?_ (Below.mono hb ?_)) | (with_reducible exact hw4.size) | (with_reducible exact hb.size) | omega | (simp <;> omega) | (simp <;> (have s := hw4.size; omega)) | (simp <;> (have s := hb.size; omega)) | (have s0 := hw4.size; (try simp at s0); have s1 := hb.size; (try simp at s1); (try simp); omega))); have HO4 := Lib.hid (owned_later (hown.out.alloc _) hw4); have HG4 := Lib.hid ((hgr.out.later ba1).later hw4))
        | (at_builtin; refine wpList_append_fits _ rfl (.tmp 36) (.tmp 38) 37 rfl B 32 i0 2 Tryz.underlying37 hi hz1 B k m ((rl (T.take k)).map vi) rfl ((HO4.out.alloc _).alloc _) ⟨w4.heap.size + 1, 0, none⟩ 1 1 [vi y.1, vi y.2] rfl rfl (two_cells rfl (by simp [go_sem, vi]) (by simp [go_sem, vi])) (rt_ones _ _) (by omega) ?_; intro w5 hown5 hgrow5))
      have hb5 : Below w.heap.size w w5 := Below.grown (by repeat (first | (with_reducible exact Below.refl _ _) | (with_reducible refine Below.setCell ?_ ?_ _) | (with_reducible refine Below.drew ?_) | (with_reducible refine Below.alloc ?_ ?_ _) | (with_reducible refine Below.trans ?_ (Below.mono b4 ?_)) | (with_reducible exact b4.size) | omega | (simp <;> omega) | (simp <;> (have s := b4.size; omega)) | (have s0 := b4.size; (try simp at s0); (try simp); omega))) hgrow5 (by simp; have := b4.size; omega) (fun j hj => by simp at hj; omega)
      have hG5 : Hid (Lies w5 g 0 P) := Lib.hid (lies_grownL (HG4.out.later ba2) hgrow5 (by simp; omega))
      have ho : w5.ownsRow B 32 2 (.slice (some ⟨B, 0, none⟩) (k + 1) m) (k + 1) ((rl (T.take (k + 1))).map vi) := by rw [Q1.out]; exact hown5
      have s7 := hgrow5.size
      simp at s7 s6
      clear hown5 hgrow5 hown hw4 hgr
      go_wp2
      exact ⟨⟨k + 1, by omega, by go_num, rfl, Lib.hid ho, hG5, hb5, by omega⟩, by simp [intOf]; omega⟩
    · obtain rfl : k = m := by omega
      have e : T.take k = T := List.take_of_length_le (by rw [HTL.out, HL.out]; exact Nat.le_refl _)
      have ho := hown.out
      rw [e] at ho
      obtain ⟨ao, cv, hv, hli⟩ := rl_owned ho (by rw [HTL.out, HL.out])
      simp only [Value.slice.injEq] at hv
      obtain ⟨rfl, -, rfl⟩ := hv
      have HLI := Lib.hid hli
      clear hown ho hli
      go_wp2
      go_ret2
      exact ⟨⟨_, _, rfl, HLI.out⟩, hb⟩
end Go.Proofs.YtjidbajcnomceaaGreat

/- The mean of the traces of all plaquettes, and how many have each trace, as the program and the document's answers make them.
Conditions: the lists lie in memory as it is written at each theorem. -/
namespace Go.Proofs.YtjidbajcnomceaaGreat
set_option linter.unusedVariables false
set_option linter.unusedSimpArgs false
set_option maxRecDepth 1000000
open Go.RowKit
open Um Tm Lm Km

def z5 : Value := .agg #[.int .i64 0, .int .i64 0, .int .i64 0, .int .i64 0, .int .i64 0]
/-- how many numbers have a numerator -/
def hcs (v : Int) : List (Int × Int) → Int
  | [] => 0
  | r :: l => (if r.1 = v then 1 else 0) + hcs v l
theorem hcs_snoc (v : Int) (l : List (Int × Int)) (r : Int × Int) : hcs v (l ++ [r]) = hcs v l + if r.1 = v then 1 else 0 := by
  induction l with
  | nil => simp [hcs]
  | cons x l ih => simp only [List.cons_append, hcs, ih]; omega
theorem hcs_rng (l : List (Int × Int)) (v : Int) : 0 ≤ hcs v l ∧ hcs v l ≤ l.length := by
  induction l with
  | nil => simp [hcs]
  | cons x l ih => simp only [hcs, List.length_cons]; split <;> omega
def hl5 (l : List (Int × Int)) : List Int := [hcs (-2) l, hcs (-1) l, hcs 0 l, hcs 1 l, hcs 2 l]
def h5 (l : List (Int × Int)) : Value := .agg #[.int .i64 (hcs (-2) l), .int .i64 (hcs (-1) l), .int .i64 (hcs 0 l), .int .i64 (hcs 1 l), .int .i64 (hcs 2 l)]
theorem hl5_take {l : List (Int × Int)} {k : Nat} (h : k < l.length) : hl5 (l.take (k + 1)) = [hcs (-2) (l.take k) + if l[k].1 = -2 then 1 else 0, hcs (-1) (l.take k) + if l[k].1 = -1 then 1 else 0, hcs 0 (l.take k) + if l[k].1 = 0 then 1 else 0, hcs 1 (l.take k) + if l[k].1 = 1 then 1 else 0, hcs 2 (l.take k) + if l[k].1 = 2 then 1 else 0] := by
  unfold hl5
  rw [List.take_succ_eq_append_getElem h]
  simp only [hcs_snoc]
/-- what the counts tell -/
theorem hcs_sum {l : List (Int × Int)} (h : ∀ r ∈ l, r.2 = 1 ∧ -2 ≤ r.1 ∧ r.1 ≤ 2) : hcs (-2) l + hcs (-1) l + hcs 0 l + hcs 1 l + hcs 2 l = l.length ∧ sumR l = (2 * hcs 2 l + hcs 1 l - hcs (-1) l - 2 * hcs (-2) l) * MM := by
  induction l with
  | nil => simp [hcs, sumR]
  | cons r l ih =>
    obtain ⟨i1, i2⟩ := ih fun s hs => h s (by simp [hs])
    obtain ⟨h1, h2, h3⟩ := h r (by simp)
    have e : sumR (r :: l) = wt r + sumR l := by simp [sumR]
    have ew : wt r = r.1 * MM := by unfold wt; rw [h1, Int.ediv_one]
    rw [e, ew, i2, List.length_cons]
    have : r.1 = -2 ∨ r.1 = -1 ∨ r.1 = 0 ∨ r.1 = 1 ∨ r.1 = 2 := by omega
    rcases this with e5 | e5 | e5 | e5 | e5 <;> (refine ⟨?_, ?_⟩ <;> simp only [hcs, e5, MM] <;> simp <;> omega)
theorem trs_I {a b c : Int} {L : List Q} (hF : Fl a b c L) (h : ∀ x ∈ L, IsS x) {k : Nat} (hk : (k : Int) ≤ 3 * (a * b * c)) : ∀ r ∈ trs a b c L k, r.2 = 1 ∧ -2 ≤ r.1 ∧ r.1 ≤ 2 := by
  intro r hr
  simp only [trs, pqs, List.mem_map, List.mem_range] at hr
  obtain ⟨x, ⟨i, hi, rfl⟩, rfl⟩ := hr
  have hs : IsS (pq a b c L i) := al_S hF h _ _ (by omega) (by omega) (pth_steps _)
  obtain ⟨e, h1, h2⟩ := hs.tr
  rw [e]
  exact ⟨rfl, h1, h2⟩
theorem five_zeroL {w : World} {o : Obj} (h : o = .cells #[.int .i64 0, .int .i64 0, .int .i64 0, .int .i64 0, .int .i64 0] 41) : IBox (w.alloc o) w.heap.size [0, 0, 0, 0, 0] := by
  subst h
  refine ⟨fun i x hx => ?_, fun j => by simp [go_sem], by simp⟩
  match i, hx with
  | 0, hx => simp at hx; subst hx; simp [go_sem]
  | 1, hx => simp at hx; subst hx; simp [go_sem]
  | 2, hx => simp at hx; subst hx; simp [go_sem]
  | 3, hx => simp at hx; subst hx; simp [go_sem]
  | 4, hx => simp at hx; subst hx; simp [go_sem]
  | n + 5, hx => simp at hx
theorem liesI_aside {w : World} {g off : Nat} {l : List Int} {p : Addr} {v : Value} (h : LiesI w g off l) (hne : g ≠ p.block) : LiesI (w.setCell p v) g off l := fun i x hx => by
  rw [World.cell?_setCell_other _ _ _ _ (fun e => hne (congrArg Addr.block e).symm)]
  exact h i x hx
set_option maxHeartbeats 6400000 in
theorem refTracesL_ok (a b c : Int) (bl off cap N : Nat) (L : List Q) (w : World) (hl : Lies w bl off L) (hF : Fl a b c L) (hN : (N : Int) = a * b * c) : Calls Tryz.prog 13 #[.agg #[.int .i64 a, .int .i64 b, .int .i64 c, .slice (some ⟨bl, off, none⟩) L.length cap]] w fun e w' => (∃ (ao : Option Addr) (k : Nat), e = .returned (.tuple #[.slice ao (3 * N) k, .int .i64 0]) ∧ LiesOI w' ao (rl (trs a b c L (3 * N)))) ∧ Below w.heap.size w w' := by
  obtain ⟨-, -, p3, -⟩ := mul_rng hF.z.a1 hF.z.a4 hF.z.b1 hF.z.b4 hF.z.c1 hF.z.c4
  have hp16 := hF.z.p
  have c2 := fun (W : World) (h : Lies W bl off L) => refPlaquettes_ok a b c bl off cap N L W h hF hN
  have hPV := pqs_V hF (k := 3 * N) (by omega)
  have hPL := pqs_len a b c L (3 * N)
  obtain ⟨i0, hi, hz0, hz1, hz2⟩ := info_parts infoRt
  have H := Lib.hid hl
  have n48 : 3 * N ≤ 48 := by omega
  unfold trs
  clear hl hF hN p3 hp16
  generalize pqs a b c L (3 * N) = P at *
  generalize 3 * N = m at *
  obtain ⟨T, hT⟩ : ∃ T, T = P.map tr := ⟨_, rfl⟩
  rw [← hT]
  have c3 : ∀ (k : Nat) (hk : k < P.length) (hk2 : k < T.length) (W : World), Calls Tryz.prog 37 #[.agg #[.int .i64 P[k].a, .int .i64 P[k].b, .int .i64 P[k].c, .int .i64 P[k].d, .int .i64 P[k].n]] W fun e w' => e = .returned (.tuple #[.agg #[.int .i64 (T[k]).1, .int .i64 (T[k]).2], .int .i64 0]) ∧ Below W.heap.size W w' := fun k hk hk2 W => by
    subst hT
    simp only [List.getElem_map]
    exact refTrace_ok _ W (hPV _ (List.getElem_mem hk))
  have hTL : T.length = P.length := by rw [hT]; simp
  clear hT
  have HC := Lib.hid c3
  have HL := Lib.hid hPL
  have HTL := Lib.hid hTL
  have H0 := Lib.hid (show (rl (T.take 0)).map vi = [] by rw [List.take_zero]; rfl)
  clear hPV hPL c3 hTL
  go_enter Tryz.func13, Tryz.ntmps13
  go_wp2_with ((with_reducible refine (c2 _ (H.out.later (by repeat (first | (with_reducible exact Below.refl _ _) | (with_reducible refine Below.setCell ?_ ?_ _) | (with_reducible refine Below.drew ?_) | (with_reducible refine Below.alloc ?_ ?_ _) | omega | (simp <;> omega))))).mono ?_); clear c2; rintro e w2 ⟨g, kg, rfl, hg, hw2⟩; have HG := Lib.hid hg; clear hg)
  have b0 : Below w.heap.size w w2 := by repeat (first | (with_reducible exact Below.refl _ _) | (with_reducible refine Below.setCell ?_ ?_ _) | (with_reducible refine Below.drew ?_) | (with_reducible refine Below.alloc ?_ ?_ _) | (with_reducible refine Below.trans ?_ (Below.mono hw2 ?_)) | (with_reducible exact hw2.size) | omega | (simp <;> omega) | (simp <;> (have s := hw2.size; omega)) | (have s0 := hw2.size; (try simp at s0); (try simp); omega))
  have s5 : w.heap.size + 1 ≤ w2.heap.size := by have := hw2.size; simp at this; omega
  go_loopw [6, 7, 8, 9] (fun f q _ _ wr => ∃ (k : Nat) (v : Value), k ≤ m ∧ q = .int .i64 k ∧ v = f ∧ Hid (wr.ownsRow w2.heap.size 32 2 v k ((rl (T.take k)).map vi)) ∧ Below w2.heap.size w2 wr) (fun _ q _ _ _ => m - (intOf q).toNat)
  case atStart => exact ⟨0, _, by omega, rfl, rfl, Lib.hid (by rw [H0.out]; exact World.ownsRow_nil _ _ _ _), Below.refl _ _⟩
  case round =>
    obtain ⟨k, v, hk, rfl, rfl, hown, hb⟩ := hrel
    have hbs := hb.size
    have hs2 := hw2.size
    by_cases hlt : k < m
    · have i1 : (k : Int) < (m : Int) := by omega
      have i2 : k < P.length := by have := HL.out; omega
      have i3 : k < T.length := by have := HTL.out; omega
      obtain ⟨l0, l1, l2, l3, l4⟩ := HG.out.later hb k _ (List.getElem?_eq_getElem i2)
      simp only [Nat.zero_add] at l0 l1 l2 l3 l4
      have q1 := rl_take i3
      have d0 := HC.out k i2 i3
      generalize P[k] = x at *
      generalize T[k] = y at *
      have Q1 := Lib.hid q1
      clear q1 i2 i3
      go_wp2_with (first | ((with_reducible refine (d0 _).mono ?_); clear d0; rintro e w3 ⟨rfl, hw3⟩) | (at_builtin; refine wpList_append_own _ rfl (.tmp 32) (.tmp 34) 37 rfl w2.heap.size 32 i0 _ 2 16 Tryz.underlying37 hi hz0 hz1 hz2 rfl (by decide) v k ((rl (T.take k)).map vi) rfl (((owned_later hown.out hw3).alloc _).alloc _) ⟨w3.heap.size + 1, 0, none⟩ 1 1 [vi y.1, vi y.2] rfl rfl (two_cells rfl (by simp [go_sem, vi]) (by simp [go_sem, vi])) (rt_ones _ _) (by unfold maxLen; omega) (by omega) (by have := hw3.size; simp; omega) ?_; intro v' w4 hown4 hgrow4 _))
      have hfr := owned_from hown.out
      have s3 := hw3.size
      have b3 : Below w2.heap.size w2 w3 := by repeat (first | (with_reducible exact Below.refl _ _) | (with_reducible refine Below.setCell ?_ ?_ _) | (with_reducible refine Below.drew ?_) | (with_reducible refine Below.alloc ?_ ?_ _) | (with_reducible refine Below.trans ?_ (Below.mono hw3 ?_)) | (with_reducible refine Below.trans ?_ (Below.mono hb ?_)) | (with_reducible exact hw3.size) | (with_reducible exact hb.size) | omega | (simp <;> omega) | (simp <;> (have s := hw3.size; omega)) | (simp <;> (have s := hb.size; omega)) | (have s0 := hw3.size; (try simp at s0); have s1 := hb.size; (try simp at s1); (try simp); omega))
      have b4 := ((b3.alloc (by omega) _).alloc (by simp; omega) _).grown hgrow4 (by simp; omega) (fun j hj => by have := hfr j hj; omega)
      have ho : w4.ownsRow w2.heap.size 32 2 v' (k + 1) ((rl (T.take (k + 1))).map vi) := by rw [Q1.out]; exact hown4
      clear hown4 hgrow4 hown hw3
      go_wp2
      exact ⟨⟨k + 1, _, by omega, by go_num, rfl, Lib.hid ho, b4⟩, by simp [intOf]; omega⟩
    · obtain rfl : k = m := by omega
      have e : T.take k = T := List.take_of_length_le (by rw [HTL.out, HL.out]; exact Nat.le_refl _)
      have ho := hown.out
      rw [e] at ho
      obtain ⟨ao, cv, rfl, hli⟩ := rl_owned ho (by rw [HTL.out, HL.out])
      have HLI := Lib.hid hli
      clear hown ho hli
      go_wp2
      go_ret2
      exact ⟨⟨_, _, rfl, HLI.out⟩, b0.trans (hb.mono b0.size)⟩
set_option maxHeartbeats 1600000 in
theorem tracesL_bad (a b c r : Int) (ao : Option Addr) (cap : Nat) (L : List Q) (w : World) (h : LiesO w ao L) (hr : fldR a b c L r) (h0 : r ≠ 0) (hlen : L.length ≤ 1000000) : Calls Tryz.prog 12 #[.agg #[.int .i64 a, .int .i64 b, .int .i64 c, .slice ao L.length cap]] w fun e w' => e = .returned (.tuple #[.slice none 0 0, .int .i64 r]) ∧ Below w.heap.size w w' := by
  have q1 : (r == 0) = false := by simpa using h0
  have q2 : (r != 0) = true := by simpa using h0
  have c1 := fun (W : World) (h : LiesO W ao L) => plaquettes_bad a b c r ao cap L W h hr hlen q1 q2
  have H := Lib.hid h
  clear h hr h0
  go_enter Tryz.func12, Tryz.ntmps12
  go_wp2_with (fail)
  refine (c1 _ (H.out.later (by repeat (first | (with_reducible exact Below.refl _ _) | (with_reducible refine Below.setCell ?_ ?_ _) | (with_reducible refine Below.drew ?_) | (with_reducible refine Below.alloc ?_ ?_ _) | omega | (simp <;> omega))))).mono ?_
  rintro e w1 ⟨rfl, hw1⟩
  go_wp2
  go_ret2
  exact ⟨rfl, by repeat (first | (with_reducible exact Below.refl _ _) | (with_reducible refine Below.setCell ?_ ?_ _) | (with_reducible refine Below.drew ?_) | (with_reducible refine Below.alloc ?_ ?_ _) | (with_reducible refine Below.trans ?_ (Below.mono hw1 ?_)) | (with_reducible exact hw1.size) | omega | (simp <;> omega) | (simp <;> (have s := hw1.size; omega)) | (have s0 := hw1.size; (try simp at s0); (try simp); omega))⟩
set_option maxHeartbeats 1600000 in
theorem refTracesL_bad (a b c r : Int) (ao : Option Addr) (cap : Nat) (L : List Q) (w : World) (h : LiesO w ao L) (hr : fldR a b c L r) (h0 : r ≠ 0) (hlen : L.length ≤ 1000000) : Calls Tryz.prog 13 #[.agg #[.int .i64 a, .int .i64 b, .int .i64 c, .slice ao L.length cap]] w fun e w' => e = .returned (.tuple #[.slice none 0 0, .int .i64 r]) ∧ Below w.heap.size w w' := by
  have q1 : (r == 0) = false := by simpa using h0
  have q2 : (r != 0) = true := by simpa using h0
  have c1 := fun (W : World) (h : LiesO W ao L) => refPlaquettes_bad a b c r ao cap L W h hr hlen q1 q2
  have H := Lib.hid h
  clear h hr h0
  go_enter Tryz.func13, Tryz.ntmps13
  go_wp2_with (fail)
  refine (c1 _ (H.out.later (by repeat (first | (with_reducible exact Below.refl _ _) | (with_reducible refine Below.setCell ?_ ?_ _) | (with_reducible refine Below.drew ?_) | (with_reducible refine Below.alloc ?_ ?_ _) | omega | (simp <;> omega))))).mono ?_
  rintro e w1 ⟨rfl, hw1⟩
  go_wp2
  go_ret2
  exact ⟨rfl, by repeat (first | (with_reducible exact Below.refl _ _) | (with_reducible refine Below.setCell ?_ ?_ _) | (with_reducible refine Below.drew ?_) | (with_reducible refine Below.alloc ?_ ?_ _) | (with_reducible refine Below.trans ?_ (Below.mono hw1 ?_)) | (with_reducible exact hw1.size) | omega | (simp <;> omega) | (simp <;> (have s := hw1.size; omega)) | (have s0 := hw1.size; (try simp at s0); (try simp); omega))⟩
set_option maxHeartbeats 1600000 in
theorem meanL_bad (a b c r : Int) (ao : Option Addr) (cap : Nat) (L : List Q) (w : World) (h : LiesO w ao L) (hr : fldR a b c L r) (h0 : r ≠ 0) (hlen : L.length ≤ 1000000) : Calls Tryz.prog 14 #[.agg #[.int .i64 a, .int .i64 b, .int .i64 c, .slice ao L.length cap]] w fun e w' => e = .returned (.tuple #[z2, .int .i64 r]) ∧ Below w.heap.size w w' := by
  have q1 : (r == 0) = false := by simpa using h0
  have q2 : (r != 0) = true := by simpa using h0
  have c1 := fun (W : World) (h : LiesO W ao L) => tracesL_bad a b c r ao cap L W h hr h0 hlen
  have H := Lib.hid h
  clear h hr h0
  go_enter Tryz.func14, Tryz.ntmps14
  go_wp2_with (fail)
  refine (c1 _ (H.out.later (by repeat (first | (with_reducible exact Below.refl _ _) | (with_reducible refine Below.setCell ?_ ?_ _) | (with_reducible refine Below.drew ?_) | (with_reducible refine Below.alloc ?_ ?_ _) | omega | (simp <;> omega))))).mono ?_
  rintro e w1 ⟨rfl, hw1⟩
  have hc1 := Tail.cells hw1
  have zw10 := Nat.lt_of_lt_of_le (n := w.heap.size) (by simp <;> omega) hw1.size; have zw11 := Nat.lt_of_lt_of_le (n := w.heap.size + 1) (by simp <;> omega) hw1.size
  go_wp2
  refine bodyPost_ret (v := .tuple #[z2, .int .i64 r]) ?_ rfl ⟨rfl, ?_⟩
  · simp [results, Tryz.results14, go_sem, hc1, zw10, zw11, z2, z5]
  · repeat (first | (with_reducible exact Below.refl _ _) | (with_reducible refine Below.setCell ?_ ?_ _) | (with_reducible refine Below.drew ?_) | (with_reducible refine Below.alloc ?_ ?_ _) | (with_reducible refine Below.trans ?_ (Below.mono hw1 ?_)) | (with_reducible exact hw1.size) | omega | (simp <;> omega) | (simp <;> (have s := hw1.size; omega)) | (have s0 := hw1.size; (try simp at s0); (try simp); omega))
set_option maxHeartbeats 1600000 in
theorem refMeanL_bad (a b c r : Int) (ao : Option Addr) (cap : Nat) (L : List Q) (w : World) (h : LiesO w ao L) (hr : fldR a b c L r) (h0 : r ≠ 0) (hlen : L.length ≤ 1000000) : Calls Tryz.prog 15 #[.agg #[.int .i64 a, .int .i64 b, .int .i64 c, .slice ao L.length cap]] w fun e w' => e = .returned (.tuple #[z2, .int .i64 r]) ∧ Below w.heap.size w w' := by
  have q1 : (r == 0) = false := by simpa using h0
  have q2 : (r != 0) = true := by simpa using h0
  have c1 := fun (W : World) (h : LiesO W ao L) => refTracesL_bad a b c r ao cap L W h hr h0 hlen
  have H := Lib.hid h
  clear h hr h0
  go_enter Tryz.func15, Tryz.ntmps15
  go_wp2_with (fail)
  refine (c1 _ (H.out.later (by repeat (first | (with_reducible exact Below.refl _ _) | (with_reducible refine Below.setCell ?_ ?_ _) | (with_reducible refine Below.drew ?_) | (with_reducible refine Below.alloc ?_ ?_ _) | omega | (simp <;> omega))))).mono ?_
  rintro e w1 ⟨rfl, hw1⟩
  have hc1 := Tail.cells hw1
  have zw10 := Nat.lt_of_lt_of_le (n := w.heap.size) (by simp <;> omega) hw1.size; have zw11 := Nat.lt_of_lt_of_le (n := w.heap.size + 1) (by simp <;> omega) hw1.size
  go_wp2
  refine bodyPost_ret (v := .tuple #[z2, .int .i64 r]) ?_ rfl ⟨rfl, ?_⟩
  · simp [results, Tryz.results15, go_sem, hc1, zw10, zw11, z2, z5]
  · repeat (first | (with_reducible exact Below.refl _ _) | (with_reducible refine Below.setCell ?_ ?_ _) | (with_reducible refine Below.drew ?_) | (with_reducible refine Below.alloc ?_ ?_ _) | (with_reducible refine Below.trans ?_ (Below.mono hw1 ?_)) | (with_reducible exact hw1.size) | omega | (simp <;> omega) | (simp <;> (have s := hw1.size; omega)) | (have s0 := hw1.size; (try simp at s0); (try simp); omega))
set_option maxHeartbeats 1600000 in
theorem histL_bad (a b c r : Int) (ao : Option Addr) (cap : Nat) (L : List Q) (w : World) (h : LiesO w ao L) (hr : fldR a b c L r) (h0 : r ≠ 0) (hlen : L.length ≤ 1000000) : Calls Tryz.prog 16 #[.agg #[.int .i64 a, .int .i64 b, .int .i64 c, .slice ao L.length cap]] w fun e w' => e = .returned (.tuple #[z5, .int .i64 r]) ∧ Below w.heap.size w w' := by
  have q1 : (r == 0) = false := by simpa using h0
  have q2 : (r != 0) = true := by simpa using h0
  have c1 := fun (W : World) (h : LiesO W ao L) => isSmall_bad a b c r ao cap L W h hr h0 hlen
  have H := Lib.hid h
  clear h hr h0
  go_enter Tryz.func16, Tryz.ntmps16
  go_wp2_with (fail)
  refine (c1 _ (H.out.later (by repeat (first | (with_reducible exact Below.refl _ _) | (with_reducible refine Below.setCell ?_ ?_ _) | (with_reducible refine Below.drew ?_) | (with_reducible refine Below.alloc ?_ ?_ _) | omega | (simp <;> omega))))).mono ?_
  rintro e w1 ⟨rfl, hw1⟩
  have hc1 := Tail.cells hw1
  have zw10 := Nat.lt_of_lt_of_le (n := w.heap.size) (by simp <;> omega) hw1.size; have zw11 := Nat.lt_of_lt_of_le (n := w.heap.size + 1) (by simp <;> omega) hw1.size
  go_wp2
  refine bodyPost_ret (v := .tuple #[z5, .int .i64 r]) ?_ rfl ⟨rfl, ?_⟩
  · simp [results, Tryz.results16, go_sem, hc1, zw10, zw11, z2, z5]
  · repeat (first | (with_reducible exact Below.refl _ _) | (with_reducible refine Below.setCell ?_ ?_ _) | (with_reducible refine Below.drew ?_) | (with_reducible refine Below.alloc ?_ ?_ _) | (with_reducible refine Below.trans ?_ (Below.mono hw1 ?_)) | (with_reducible exact hw1.size) | omega | (simp <;> omega) | (simp <;> (have s := hw1.size; omega)) | (have s0 := hw1.size; (try simp at s0); (try simp); omega))
set_option maxHeartbeats 1600000 in
theorem refHistL_bad (a b c r : Int) (ao : Option Addr) (cap : Nat) (L : List Q) (w : World) (h : LiesO w ao L) (hr : fldR a b c L r) (h0 : r ≠ 0) (hlen : L.length ≤ 1000000) : Calls Tryz.prog 17 #[.agg #[.int .i64 a, .int .i64 b, .int .i64 c, .slice ao L.length cap]] w fun e w' => e = .returned (.tuple #[z5, .int .i64 r]) ∧ Below w.heap.size w w' := by
  have q1 : (r == 0) = false := by simpa using h0
  have q2 : (r != 0) = true := by simpa using h0
  have c1 := fun (W : World) (h : LiesO W ao L) => refTracesL_bad a b c r ao cap L W h hr h0 hlen
  have H := Lib.hid h
  clear h hr h0
  go_enter Tryz.func17, Tryz.ntmps17
  go_wp2_with (fail)
  refine (c1 _ (H.out.later (by repeat (first | (with_reducible exact Below.refl _ _) | (with_reducible refine Below.setCell ?_ ?_ _) | (with_reducible refine Below.drew ?_) | (with_reducible refine Below.alloc ?_ ?_ _) | omega | (simp <;> omega))))).mono ?_
  rintro e w1 ⟨rfl, hw1⟩
  have hc1 := Tail.cells hw1
  have zw10 := Nat.lt_of_lt_of_le (n := w.heap.size) (by simp <;> omega) hw1.size; have zw11 := Nat.lt_of_lt_of_le (n := w.heap.size + 1) (by simp <;> omega) hw1.size
  go_wp2
  refine bodyPost_ret (v := .tuple #[z5, .int .i64 r]) ?_ rfl ⟨rfl, ?_⟩
  · simp [results, Tryz.results17, go_sem, hc1, zw10, zw11, z2, z5]
  · repeat (first | (with_reducible exact Below.refl _ _) | (with_reducible refine Below.setCell ?_ ?_ _) | (with_reducible refine Below.drew ?_) | (with_reducible refine Below.alloc ?_ ?_ _) | (with_reducible refine Below.trans ?_ (Below.mono hw1 ?_)) | (with_reducible exact hw1.size) | omega | (simp <;> omega) | (simp <;> (have s := hw1.size; omega)) | (have s0 := hw1.size; (try simp at s0); (try simp); omega))
set_option maxHeartbeats 1600000 in
theorem meanL_ok (a b c : Int) (bl off cap N : Nat) (L : List Q) (w : World) (hl : Lies w bl off L) (hF : Fl a b c L) (hN : (N : Int) = a * b * c) : Calls Tryz.prog 14 #[.agg #[.int .i64 a, .int .i64 b, .int .i64 c, .slice (some ⟨bl, off, none⟩) L.length cap]] w fun e w' => e = .returned (.tuple #[.agg #[.int .i64 ((meanR (trs a b c L (3 * N)))).1, .int .i64 ((meanR (trs a b c L (3 * N)))).2], .int .i64 0]) ∧ Below w.heap.size w w' := by
  obtain ⟨-, -, p3, -⟩ := mul_rng hF.z.a1 hF.z.a4 hF.z.b1 hF.z.b4 hF.z.c1 hF.z.c4
  have hp16 := hF.z.p
  have hTL := trs_len a b c L (3 * N)
  have hR := trs_Rt hF (k := 3 * N) (by omega)
  have c1 := fun (W : World) (h : Lies W bl off L) => tracesL_ok a b c bl off cap N L W h hF hN
  have c3 : ∀ (ao : Option Addr) (k : Nat) (W : World), LiesOI W ao (rl (trs a b c L (3 * N))) → Calls Tryz.prog 38 #[.slice ao (3 * N) k] W fun e w' => e = .returned (.agg #[.int .i64 ((meanR (trs a b c L (3 * N)))).1, .int .i64 ((meanR (trs a b c L (3 * N)))).2]) ∧ Below W.heap.size W w' := fun ao k W h => by
    have := mean3_any ao k (trs a b c L (3 * N)) W h (by omega) (by omega) hR
    rw [hTL] at this
    exact this
  have H := Lib.hid hl
  clear hl hF hN p3 hp16 hTL hR
  generalize trs a b c L (3 * N) = T at *
  generalize 3 * N = m at *
  generalize meanR T = z at *
  go_enter Tryz.func14, Tryz.ntmps14
  go_wp2_with (fail)
  refine (c1 _ (H.out.later (by repeat (first | (with_reducible exact Below.refl _ _) | (with_reducible refine Below.setCell ?_ ?_ _) | (with_reducible refine Below.drew ?_) | (with_reducible refine Below.alloc ?_ ?_ _) | omega | (simp <;> omega))))).mono ?_
  rintro e w1 ⟨⟨ao, k, rfl, hg⟩, hw1⟩
  have hc1 := Tail.cells hw1
  have zw10 := Nat.lt_of_lt_of_le (n := w.heap.size) (by simp <;> omega) hw1.size; have zw11 := Nat.lt_of_lt_of_le (n := w.heap.size + 1) (by simp <;> omega) hw1.size
  go_wp2_with (fail)
  refine (c3 _ _ _ hg).mono ?_
  rintro e w2 ⟨rfl, hw2⟩
  have hc2 := Tail.cells hw2
  have y0 := Nat.lt_of_lt_of_le zw10 hw2.size
  have y1 := Nat.lt_of_lt_of_le zw11 hw2.size
  go_wp2
  refine bodyPost_ret (v := .tuple #[.agg #[.int .i64 (z).1, .int .i64 (z).2], .int .i64 0]) ?_ rfl ⟨rfl, ?_⟩
  · simp [results, Tryz.results14, go_sem, hc1, hc2, zw10, zw11, y0, y1]
  · repeat (first | (with_reducible exact Below.refl _ _) | (with_reducible refine Below.setCell ?_ ?_ _) | (with_reducible refine Below.drew ?_) | (with_reducible refine Below.alloc ?_ ?_ _) | (with_reducible refine Below.trans ?_ (Below.mono hw2 ?_)) | (with_reducible refine Below.trans ?_ (Below.mono hw1 ?_)) | (with_reducible exact hw2.size) | (with_reducible exact hw1.size) | omega | (simp <;> omega) | (simp <;> (have s := hw2.size; omega)) | (simp <;> (have s := hw1.size; omega)) | (have s0 := hw2.size; (try simp at s0); have s1 := hw1.size; (try simp at s1); (try simp); omega))
set_option maxHeartbeats 1600000 in
theorem refMeanL_ok (a b c : Int) (bl off cap N : Nat) (L : List Q) (w : World) (hl : Lies w bl off L) (hF : Fl a b c L) (hN : (N : Int) = a * b * c) : Calls Tryz.prog 15 #[.agg #[.int .i64 a, .int .i64 b, .int .i64 c, .slice (some ⟨bl, off, none⟩) L.length cap]] w fun e w' => e = .returned (.tuple #[.agg #[.int .i64 ((meanR (trs a b c L (3 * N)))).1, .int .i64 ((meanR (trs a b c L (3 * N)))).2], .int .i64 0]) ∧ Below w.heap.size w w' := by
  obtain ⟨-, -, p3, -⟩ := mul_rng hF.z.a1 hF.z.a4 hF.z.b1 hF.z.b4 hF.z.c1 hF.z.c4
  have hp16 := hF.z.p
  have hTL := trs_len a b c L (3 * N)
  have hR := trs_Rt hF (k := 3 * N) (by omega)
  have c1 := fun (W : World) (h : Lies W bl off L) => refTracesL_ok a b c bl off cap N L W h hF hN
  have c3 : ∀ (ao : Option Addr) (k : Nat) (W : World), LiesOI W ao (rl (trs a b c L (3 * N))) → Calls Tryz.prog 39 #[.slice ao (3 * N) k, .int .i64 (3 * N : Nat)] W fun e w' => e = .returned (.agg #[.int .i64 ((meanR (trs a b c L (3 * N)))).1, .int .i64 ((meanR (trs a b c L (3 * N)))).2]) ∧ Below W.heap.size W w' := fun ao k W h => by
    have := total3_any ao k (trs a b c L (3 * N)) (3 * N : Nat) W h (by omega) (fun r hr => (hR r hr).le (by decide)) (by omega) (by omega)
    rw [show ((3 * N : Nat) : Int) = ((trs a b c L (3 * N)).length : Int) by rw [hTL], mean_all hR (by omega), hTL] at this
    
    exact this
  have H := Lib.hid hl
  clear hl hF hN p3 hp16 hTL hR
  generalize trs a b c L (3 * N) = T at *
  generalize 3 * N = m at *
  generalize meanR T = z at *
  go_enter Tryz.func15, Tryz.ntmps15
  go_wp2_with (fail)
  refine (c1 _ (H.out.later (by repeat (first | (with_reducible exact Below.refl _ _) | (with_reducible refine Below.setCell ?_ ?_ _) | (with_reducible refine Below.drew ?_) | (with_reducible refine Below.alloc ?_ ?_ _) | omega | (simp <;> omega))))).mono ?_
  rintro e w1 ⟨⟨ao, k, rfl, hg⟩, hw1⟩
  have hc1 := Tail.cells hw1
  have zw10 := Nat.lt_of_lt_of_le (n := w.heap.size) (by simp <;> omega) hw1.size; have zw11 := Nat.lt_of_lt_of_le (n := w.heap.size + 1) (by simp <;> omega) hw1.size
  go_wp2_with (fail)
  refine (c3 _ _ _ hg).mono ?_
  rintro e w2 ⟨rfl, hw2⟩
  have hc2 := Tail.cells hw2
  have y0 := Nat.lt_of_lt_of_le zw10 hw2.size
  have y1 := Nat.lt_of_lt_of_le zw11 hw2.size
  go_wp2
  refine bodyPost_ret (v := .tuple #[.agg #[.int .i64 (z).1, .int .i64 (z).2], .int .i64 0]) ?_ rfl ⟨rfl, ?_⟩
  · simp [results, Tryz.results15, go_sem, hc1, hc2, zw10, zw11, y0, y1]
  · repeat (first | (with_reducible exact Below.refl _ _) | (with_reducible refine Below.setCell ?_ ?_ _) | (with_reducible refine Below.drew ?_) | (with_reducible refine Below.alloc ?_ ?_ _) | (with_reducible refine Below.trans ?_ (Below.mono hw2 ?_)) | (with_reducible refine Below.trans ?_ (Below.mono hw1 ?_)) | (with_reducible exact hw2.size) | (with_reducible exact hw1.size) | omega | (simp <;> omega) | (simp <;> (have s := hw2.size; omega)) | (simp <;> (have s := hw1.size; omega)) | (have s0 := hw2.size; (try simp at s0); have s1 := hw1.size; (try simp at s1); (try simp); omega))
set_option maxHeartbeats 1600000 in
theorem histL_small (a b c : Int) (bl off cap : Nat) (L : List Q) (ns : List Int) (w : World) (hl : Lies w bl off L) (hF : Fl a b c L) (hq : smR L ns false) : Calls Tryz.prog 16 #[.agg #[.int .i64 a, .int .i64 b, .int .i64 c, .slice (some ⟨bl, off, none⟩) L.length cap]] w fun e w' => e = .returned (.tuple #[z5, .int .i64 7]) ∧ Below w.heap.size w w' := by
  have c2 := fun (W : World) (h : Lies W bl off L) => isSmall_ok a b c (some ⟨bl, off, none⟩) cap L ns false W (.inr ⟨bl, off, rfl, h⟩) (Fl_fldR hF) hq
  have H := Lib.hid hl
  clear hl hF hq
  go_enter Tryz.func16, Tryz.ntmps16
  go_wp2_with (fail)
  refine (c2 _ (H.out.later (by repeat (first | (with_reducible exact Below.refl _ _) | (with_reducible refine Below.setCell ?_ ?_ _) | (with_reducible refine Below.drew ?_) | (with_reducible refine Below.alloc ?_ ?_ _) | omega | (simp <;> omega))))).mono ?_
  rintro e w1 ⟨rfl, hw1⟩
  have hc1 := Tail.cells hw1
  have zw10 := Nat.lt_of_lt_of_le (n := w.heap.size) (by simp <;> omega) hw1.size; have zw11 := Nat.lt_of_lt_of_le (n := w.heap.size + 1) (by simp <;> omega) hw1.size
  go_wp2
  refine bodyPost_ret (v := .tuple #[z5, .int .i64 7]) ?_ rfl ⟨rfl, ?_⟩
  · simp [results, Tryz.results16, go_sem, hc1, zw10, zw11, z5]
  · repeat (first | (with_reducible exact Below.refl _ _) | (with_reducible refine Below.setCell ?_ ?_ _) | (with_reducible refine Below.drew ?_) | (with_reducible refine Below.alloc ?_ ?_ _) | (with_reducible refine Below.trans ?_ (Below.mono hw1 ?_)) | (with_reducible exact hw1.size) | omega | (simp <;> omega) | (simp <;> (have s := hw1.size; omega)) | (have s0 := hw1.size; (try simp at s0); (try simp); omega))
set_option maxHeartbeats 1600000 in
theorem refHistL_small (a b c : Int) (bl off cap N : Nat) (L : List Q) (ns : List Int) (w : World) (hl : Lies w bl off L) (hF : Fl a b c L) (hq : smR L ns false) (hN : (N : Int) = a * b * c) : Calls Tryz.prog 17 #[.agg #[.int .i64 a, .int .i64 b, .int .i64 c, .slice (some ⟨bl, off, none⟩) L.length cap]] w fun e w' => e = .returned (.tuple #[z5, .int .i64 7]) ∧ Below w.heap.size w w' := by
  have c1 := fun (W : World) (h : Lies W bl off L) => refTracesL_ok a b c bl off cap N L W h hF hN
  have c2 : ∀ W : World, Lies W bl off L → Calls Tryz.prog 41 #[.agg #[.int .i64 a, .int .i64 b, .int .i64 c, .slice (some ⟨bl, off, none⟩) L.length cap]] W fun e w' => e = .returned (.tuple #[.slice none 0 0, .bool false]) ∧ Below W.heap.size W w' := fun W h => (letters_ok a b c (some ⟨bl, off, none⟩) cap L ns false W (.inr ⟨bl, off, rfl, h⟩) (Fl_fldR hF) hq).mono fun e w' ⟨hh, hb⟩ => by
    rcases hh with ⟨hf, -⟩ | ⟨-, he⟩
    · cases hf
    · exact ⟨he, hb⟩
  have H := Lib.hid hl
  clear hl hF hq hN
  go_enter Tryz.func17, Tryz.ntmps17
  go_wp2_with (fail)
  refine (c1 _ (H.out.later (by repeat (first | (with_reducible exact Below.refl _ _) | (with_reducible refine Below.setCell ?_ ?_ _) | (with_reducible refine Below.drew ?_) | (with_reducible refine Below.alloc ?_ ?_ _) | omega | (simp <;> omega))))).mono ?_
  rintro e w1 ⟨⟨ao, kg, rfl, -⟩, hw1⟩
  have hc1 := Tail.cells hw1
  have zw10 := Nat.lt_of_lt_of_le (n := w.heap.size) (by simp <;> omega) hw1.size; have zw11 := Nat.lt_of_lt_of_le (n := w.heap.size + 1) (by simp <;> omega) hw1.size
  go_wp2_with (fail)
  refine (c2 _ (H.out.later (by repeat (first | (with_reducible exact Below.refl _ _) | (with_reducible refine Below.setCell ?_ ?_ _) | (with_reducible refine Below.drew ?_) | (with_reducible refine Below.alloc ?_ ?_ _) | (with_reducible refine Below.trans ?_ (Below.mono hw1 ?_)) | (with_reducible exact hw1.size) | omega | (simp <;> omega) | (simp <;> (have s := hw1.size; omega)) | (have s0 := hw1.size; (try simp at s0); (try simp); omega))))).mono ?_
  rintro e w2 ⟨rfl, hw2⟩
  have hc2 := Tail.cells hw2
  have y0 := Nat.lt_of_lt_of_le zw10 hw2.size
  have y1 := Nat.lt_of_lt_of_le zw11 hw2.size
  go_wp2
  refine bodyPost_ret (v := .tuple #[z5, .int .i64 7]) ?_ rfl ⟨rfl, ?_⟩
  · simp [results, Tryz.results17, go_sem, hc1, hc2, zw10, zw11, y0, y1, z5]
  · repeat (first | (with_reducible exact Below.refl _ _) | (with_reducible refine Below.setCell ?_ ?_ _) | (with_reducible refine Below.drew ?_) | (with_reducible refine Below.alloc ?_ ?_ _) | (with_reducible refine Below.trans ?_ (Below.mono hw2 ?_)) | (with_reducible refine Below.trans ?_ (Below.mono hw1 ?_)) | (with_reducible exact hw2.size) | (with_reducible exact hw1.size) | omega | (simp <;> omega) | (simp <;> (have s := hw2.size; omega)) | (simp <;> (have s := hw1.size; omega)) | (have s0 := hw2.size; (try simp at s0); have s1 := hw1.size; (try simp at s1); (try simp); omega))
set_option maxHeartbeats 6400000 in
theorem histL_ok (a b c : Int) (bl off cap N : Nat) (L : List Q) (ns : List Int) (w : World) (hl : Lies w bl off L) (hF : Fl a b c L) (hq : smR L ns true) (hS : ∀ x ∈ L, IsS x) (hN : (N : Int) = a * b * c) : Calls Tryz.prog 16 #[.agg #[.int .i64 a, .int .i64 b, .int .i64 c, .slice (some ⟨bl, off, none⟩) L.length cap]] w fun e w' => e = .returned (.tuple #[h5 (trs a b c L (3 * N)), .int .i64 0]) ∧ Below w.heap.size w w' := by
  obtain ⟨-, -, p3, -⟩ := mul_rng hF.z.a1 hF.z.a4 hF.z.b1 hF.z.b4 hF.z.c1 hF.z.c4
  have hp16 := hF.z.p
  have hTI := trs_I hF hS (k := 3 * N) (by omega)
  have hTL := trs_len a b c L (3 * N)
  have c1 := fun (W : World) (h : Lies W bl off L) => tracesL_ok a b c bl off cap N L W h hF hN
  have c2 := fun (W : World) (h : Lies W bl off L) => isSmall_ok a b c (some ⟨bl, off, none⟩) cap L ns true W (.inr ⟨bl, off, rfl, h⟩) (Fl_fldR hF) hq
  have n48 : 3 * N ≤ 48 := by omega
  have m0 : 0 < 3 * N := by omega
  have H := Lib.hid hl
  clear hl hF hq hS hN p3 hp16
  generalize trs a b c L (3 * N) = T at *
  generalize 3 * N = m at *
  have HI := Lib.hid hTI
  have HL := Lib.hid hTL
  clear hTI hTL
  go_enter Tryz.func16, Tryz.ntmps16
  have R0 := Lib.hid (five_zeroL (w := w.alloc (.cells #[.int .i64 a, .int .i64 b, .int .i64 c, .slice (some ⟨bl, off, none⟩) L.length cap] 25)) rfl)
  rw [show (w.alloc (.cells #[.int .i64 a, .int .i64 b, .int .i64 c, .slice (some ⟨bl, off, none⟩) L.length cap] 25)).heap.size = w.heap.size + 1 by simp] at R0
  go_wp2_with (fail)
  refine (c2 _ (H.out.later (by repeat (first | (with_reducible exact Below.refl _ _) | (with_reducible refine Below.setCell ?_ ?_ _) | (with_reducible refine Below.drew ?_) | (with_reducible refine Below.alloc ?_ ?_ _) | omega | (simp <;> omega))))).mono ?_
  rintro e w1 ⟨rfl, hw1⟩
  have hc1 := Tail.cells hw1
  have zw10 := Nat.lt_of_lt_of_le (n := w.heap.size) (by simp <;> omega) hw1.size
  have s1 := hw1.size
  go_wp2_with (fail)
  refine (c1 _ (H.out.later (by repeat (first | (with_reducible exact Below.refl _ _) | (with_reducible refine Below.setCell ?_ ?_ _) | (with_reducible refine Below.drew ?_) | (with_reducible refine Below.alloc ?_ ?_ _) | (with_reducible refine Below.trans ?_ (Below.mono hw1 ?_)) | (with_reducible exact hw1.size) | omega | (simp <;> omega) | (simp <;> (have s := hw1.size; omega)) | (have s0 := hw1.size; (try simp at s0); (try simp); omega))))).mono ?_
  rintro e w2 ⟨⟨ao, kg, rfl, hg⟩, hw2⟩
  have hc2 := Tail.cells hw2
  have HG := Lib.hid hg
  clear hg c1
  have s2 := hw2.size
  have b0 : Below w.heap.size w w2 := by repeat (first | (with_reducible exact Below.refl _ _) | (with_reducible refine Below.setCell ?_ ?_ _) | (with_reducible refine Below.drew ?_) | (with_reducible refine Below.alloc ?_ ?_ _) | (with_reducible refine Below.trans ?_ (Below.mono hw2 ?_)) | (with_reducible refine Below.trans ?_ (Below.mono hw1 ?_)) | (with_reducible exact hw2.size) | (with_reducible exact hw1.size) | omega | (simp <;> omega) | (simp <;> (have s := hw2.size; omega)) | (simp <;> (have s := hw1.size; omega)) | (have s0 := hw2.size; (try simp at s0); have s1 := hw1.size; (try simp at s1); (try simp); omega))
  have hrl : rl T ≠ [] := fun h => by
    have := rl_len T
    rw [h, HL.out] at this
    simp at this
    omega
  obtain ⟨g, go, rfl, hgl⟩ : ∃ g go, ao = some ⟨g, go, none⟩ ∧ LiesI w2 g go (rl T) := by
    rcases HG.out with h | h
    · exact absurd h hrl
    · exact h
  have glt : g < w2.heap.size := by
    have := rl_get T 0 (by rw [HL.out]; omega)
    exact World.block_lt_of_cell? w2 _ (hgl _ _ this.1)
  have G2 := Lib.hid (hgl.later (ba1 (o := .cells #[.int .i64 0, .int .i64 0, .int .i64 0, .int .i64 0, .int .i64 0] 41)))
  have R2 := Lib.hid (((R0.out.later hw1).later hw2).later (ba1 (o := .cells #[.int .i64 0, .int .i64 0, .int .i64 0, .int .i64 0, .int .i64 0] 41)))
  have B2 := Lib.hid (five_zeroL (w := w2) rfl)
  have b2 : Below w.heap.size w (w2.alloc (.cells #[.int .i64 0, .int .i64 0, .int .i64 0, .int .i64 0, .int .i64 0] 41)) := by repeat (first | (with_reducible exact Below.refl _ _) | (with_reducible refine Below.setCell ?_ ?_ _) | (with_reducible refine Below.drew ?_) | (with_reducible refine Below.alloc ?_ ?_ _) | (with_reducible refine Below.trans ?_ (Below.mono b0 ?_)) | (with_reducible exact b0.size) | omega | (simp <;> omega) | (simp <;> (have s := b0.size; omega)) | (have s0 := b0.size; (try simp at s0); (try simp); omega))
  simp at s1
  have hBs : w.heap.size + 2 ≤ w2.heap.size := by omega
  clear HG hgl hrl R0
  go_wp2
  generalize w2.alloc (.cells #[.int .i64 0, .int .i64 0, .int .i64 0, .int .i64 0, .int .i64 0] 41) = W0 at *
  generalize w2.heap.size = B at *
  clear hw1 hw2 hc1 hc2 zw10 b0 s1 s2
  go_loopw [9, 33] (fun _ q wr => ∃ k : Nat, k ≤ m ∧ q = .int .i64 k ∧ Hid (IBox wr B (hl5 (T.take k))) ∧ Hid (IBox wr (w.heap.size + 1) [0, 0, 0, 0, 0]) ∧ Hid (LiesI wr g go (rl T)) ∧ Below w.heap.size w wr) (fun _ q _ => m - (intOf q).toNat)
  case atStart => exact ⟨0, by omega, rfl, by rw [List.take_zero]; exact B2, R2, G2, b2⟩
  case round =>
    obtain ⟨k, hk, rfl, hbx, hrx, hgx, hb⟩ := hrel
    clear b2 B2 R2 G2
    have hlB := hbx.out.lt
    have hrlt := hrx.out.lt
    by_cases hlt : k < m
    · have i1 : (k : Int) < (m : Int) := by omega
      have i2 : k < T.length := by have := HL.out; omega
      obtain ⟨e0, e1⟩ := rl_get T k i2
      have x5 := hgx.out _ _ e0
      have x6 : wr.cell? ⟨g, go + k * 2 + 1, none⟩ = _ := hgx.out _ _ e1
      have q1 := hl5_take i2
      have hgB : g ≠ B := by omega
      obtain ⟨t0, t1, t2⟩ := HI.out _ (List.getElem_mem i2)
      have cb := hcs_rng (T.take k)
      have cl : (T.take k).length ≤ 48 := by have := List.length_take_le' k T; have := HL.out; omega
      generalize hR : T[k] = r at *
      obtain ⟨t, d⟩ := r
      simp only at t0 t1 t2 x5 x6 q1
      subst t0
      have Q1 := Lib.hid q1
      have HBX := Lib.hid hbx.out
      unfold hl5 at hbx
      have x0 := hbx.out.at (i := 0) rfl
      have x1 := hbx.out.at (i := 1) rfl
      have x2 := hbx.out.at (i := 2) rfl
      have x3 := hbx.out.at (i := 3) rfl
      have x4 := hbx.out.at (i := 4) rfl
      have fz := hbx.out.free
      have b0 := cb (-2)
      have b1 := cb (-1)
      have b2 := cb 0
      have b3 := cb 1
      have b4 := cb 2
      clear q1 i2 e0 e1 hR cb hbx
      unfold hl5 at HBX
      have HB5 := HBX
      obtain ⟨hn, hhn⟩ : ∃ hn, hn = hl5 (T.take k) := ⟨_, rfl⟩
      generalize hcs (-2) (T.take k) = h0 at *
      generalize hcs (-1) (T.take k) = h1 at *
      generalize hcs 0 (T.take k) = h2 at *
      generalize hcs 1 (T.take k) = h3 at *
      generalize hcs 2 (T.take k) = h4 at *
      clear HBX hhn
      have ht : t = -2 ∨ t = -1 ∨ t = 0 ∨ t = 1 ∨ t = 2 := by omega
      rcases ht with rfl | rfl | rfl | rfl | rfl
      · go_wp2
        exact ⟨⟨k + 1, by omega, by go_num, Lib.hid (by rw [Q1.out]; simpa using (HB5.out.put 0 (by simp) (h0 + 1)).later ba1), Lib.hid ((hrx.out.other (by omega)).later ba1), Lib.hid ((liesI_aside hgx.out (by simp; omega)).later ba1), by repeat (first | (with_reducible exact Below.refl _ _) | (with_reducible refine Below.setCell ?_ ?_ _) | (with_reducible refine Below.drew ?_) | (with_reducible refine Below.alloc ?_ ?_ _) | (with_reducible refine Below.trans ?_ (Below.mono hb ?_)) | (with_reducible exact hb.size) | omega | (simp <;> omega) | (simp <;> (have s := hb.size; omega)) | (have s0 := hb.size; (try simp at s0); (try simp); omega))⟩, by simp [intOf]; omega⟩
      · go_wp2
        exact ⟨⟨k + 1, by omega, by go_num, Lib.hid (by rw [Q1.out]; simpa using (HB5.out.put 1 (by simp) (h1 + 1)).later ba1), Lib.hid ((hrx.out.other (by omega)).later ba1), Lib.hid ((liesI_aside hgx.out (by simp; omega)).later ba1), by repeat (first | (with_reducible exact Below.refl _ _) | (with_reducible refine Below.setCell ?_ ?_ _) | (with_reducible refine Below.drew ?_) | (with_reducible refine Below.alloc ?_ ?_ _) | (with_reducible refine Below.trans ?_ (Below.mono hb ?_)) | (with_reducible exact hb.size) | omega | (simp <;> omega) | (simp <;> (have s := hb.size; omega)) | (have s0 := hb.size; (try simp at s0); (try simp); omega))⟩, by simp [intOf]; omega⟩
      · go_wp2
        exact ⟨⟨k + 1, by omega, by go_num, Lib.hid (by rw [Q1.out]; simpa using (HB5.out.put 2 (by simp) (h2 + 1)).later ba1), Lib.hid ((hrx.out.other (by omega)).later ba1), Lib.hid ((liesI_aside hgx.out (by simp; omega)).later ba1), by repeat (first | (with_reducible exact Below.refl _ _) | (with_reducible refine Below.setCell ?_ ?_ _) | (with_reducible refine Below.drew ?_) | (with_reducible refine Below.alloc ?_ ?_ _) | (with_reducible refine Below.trans ?_ (Below.mono hb ?_)) | (with_reducible exact hb.size) | omega | (simp <;> omega) | (simp <;> (have s := hb.size; omega)) | (have s0 := hb.size; (try simp at s0); (try simp); omega))⟩, by simp [intOf]; omega⟩
      · go_wp2
        exact ⟨⟨k + 1, by omega, by go_num, Lib.hid (by rw [Q1.out]; simpa using (HB5.out.put 3 (by simp) (h3 + 1)).later ba1), Lib.hid ((hrx.out.other (by omega)).later ba1), Lib.hid ((liesI_aside hgx.out (by simp; omega)).later ba1), by repeat (first | (with_reducible exact Below.refl _ _) | (with_reducible refine Below.setCell ?_ ?_ _) | (with_reducible refine Below.drew ?_) | (with_reducible refine Below.alloc ?_ ?_ _) | (with_reducible refine Below.trans ?_ (Below.mono hb ?_)) | (with_reducible exact hb.size) | omega | (simp <;> omega) | (simp <;> (have s := hb.size; omega)) | (have s0 := hb.size; (try simp at s0); (try simp); omega))⟩, by simp [intOf]; omega⟩
      · go_wp2
        exact ⟨⟨k + 1, by omega, by go_num, Lib.hid (by rw [Q1.out]; simpa using (HB5.out.put 4 (by simp) (h4 + 1)).later ba1), Lib.hid ((hrx.out.other (by omega)).later ba1), Lib.hid ((liesI_aside hgx.out (by simp; omega)).later ba1), by repeat (first | (with_reducible exact Below.refl _ _) | (with_reducible refine Below.setCell ?_ ?_ _) | (with_reducible refine Below.drew ?_) | (with_reducible refine Below.alloc ?_ ?_ _) | (with_reducible refine Below.trans ?_ (Below.mono hb ?_)) | (with_reducible exact hb.size) | omega | (simp <;> omega) | (simp <;> (have s := hb.size; omega)) | (have s0 := hb.size; (try simp at s0); (try simp); omega))⟩, by simp [intOf]; omega⟩
    · obtain rfl : k = m := by omega
      have e : T.take k = T := List.take_of_length_le (by rw [HL.out]; exact Nat.le_refl _)
      rw [e] at hbx
      unfold hl5 at hbx
      have x0 := hbx.out.at (i := 0) rfl
      have x1 := hbx.out.at (i := 1) rfl
      have x2 := hbx.out.at (i := 2) rfl
      have x3 := hbx.out.at (i := 3) rfl
      have x4 := hbx.out.at (i := 4) rfl
      have y0 := hrx.out.at (i := 0) rfl
      have y1 := hrx.out.at (i := 1) rfl
      have y2 := hrx.out.at (i := 2) rfl
      have y3 := hrx.out.at (i := 3) rfl
      have y4 := hrx.out.at (i := 4) rfl
      have fy := hrx.out.free
      have hne : w.heap.size + 1 ≠ B := by omega
      clear hbx e
      go_wp2
      refine bodyPost_ret (v := .tuple #[h5 T, .int .i64 0]) ?_ rfl ⟨rfl, ?_⟩
      · simp [results, Tryz.results16, go_sem, y0, y1, y2, y3, y4, h5]
      · repeat (first | (with_reducible exact Below.refl _ _) | (with_reducible refine Below.setCell ?_ ?_ _) | (with_reducible refine Below.drew ?_) | (with_reducible refine Below.alloc ?_ ?_ _) | (with_reducible refine Below.trans ?_ (Below.mono hb ?_)) | (with_reducible exact hb.size) | omega | (simp <;> omega) | (simp <;> (have s := hb.size; omega)) | (have s0 := hb.size; (try simp at s0); (try simp); omega))
set_option maxHeartbeats 6400000 in
theorem refHistL_ok (a b c : Int) (bl off cap N : Nat) (L : List Q) (ns : List Int) (w : World) (hl : Lies w bl off L) (hF : Fl a b c L) (hq : smR L ns true) (hS : ∀ x ∈ L, IsS x) (hN : (N : Int) = a * b * c) : Calls Tryz.prog 17 #[.agg #[.int .i64 a, .int .i64 b, .int .i64 c, .slice (some ⟨bl, off, none⟩) L.length cap]] w fun e w' => e = .returned (.tuple #[h5 (trs a b c L (3 * N)), .int .i64 0]) ∧ Below w.heap.size w w' := by
  obtain ⟨-, -, p3, -⟩ := mul_rng hF.z.a1 hF.z.a4 hF.z.b1 hF.z.b4 hF.z.c1 hF.z.c4
  have hp16 := hF.z.p
  have hTI := trs_I hF hS (k := 3 * N) (by omega)
  have hTL := trs_len a b c L (3 * N)
  have c1 := fun (W : World) (h : Lies W bl off L) => refTracesL_ok a b c bl off cap N L W h hF hN
  have c2 : ∀ W : World, Lies W bl off L → Calls Tryz.prog 41 #[.agg #[.int .i64 a, .int .i64 b, .int .i64 c, .slice (some ⟨bl, off, none⟩) L.length cap]] W fun e w' => ∃ (a2 : Option Addr) (k : Nat), e = .returned (.tuple #[.slice a2 ns.length k, .bool true]) ∧ Below W.heap.size W w' := fun W h => (letters_ok a b c (some ⟨bl, off, none⟩) cap L ns true W (.inr ⟨bl, off, rfl, h⟩) (Fl_fldR hF) hq).mono fun e w' ⟨hh, hb⟩ => by
    rcases hh with ⟨-, a2, k, he, -⟩ | ⟨hf, -⟩
    · exact ⟨a2, k, he, hb⟩
    · cases hf
  have n48 : 3 * N ≤ 48 := by omega
  have m0 : 0 < 3 * N := by omega
  have H := Lib.hid hl
  clear hl hF hq hS hN p3 hp16
  generalize trs a b c L (3 * N) = T at *
  generalize 3 * N = m at *
  have HI := Lib.hid hTI
  have HL := Lib.hid hTL
  clear hTI hTL
  go_enter Tryz.func17, Tryz.ntmps17
  have R0 := Lib.hid (five_zeroL (w := w.alloc (.cells #[.int .i64 a, .int .i64 b, .int .i64 c, .slice (some ⟨bl, off, none⟩) L.length cap] 25)) rfl)
  rw [show (w.alloc (.cells #[.int .i64 a, .int .i64 b, .int .i64 c, .slice (some ⟨bl, off, none⟩) L.length cap] 25)).heap.size = w.heap.size + 1 by simp] at R0
  go_wp2_with (fail)
  refine (c1 _ (H.out.later (by repeat (first | (with_reducible exact Below.refl _ _) | (with_reducible refine Below.setCell ?_ ?_ _) | (with_reducible refine Below.drew ?_) | (with_reducible refine Below.alloc ?_ ?_ _) | omega | (simp <;> omega))))).mono ?_
  rintro e w1 ⟨⟨ao, kg, rfl, hg⟩, hw1⟩
  have hc1 := Tail.cells hw1
  have HG := Lib.hid hg
  clear hg c1
  have zw10 := Nat.lt_of_lt_of_le (n := w.heap.size) (by simp <;> omega) hw1.size
  have s1 := hw1.size
  go_wp2_with (fail)
  refine (c2 _ (H.out.later (by repeat (first | (with_reducible exact Below.refl _ _) | (with_reducible refine Below.setCell ?_ ?_ _) | (with_reducible refine Below.drew ?_) | (with_reducible refine Below.alloc ?_ ?_ _) | (with_reducible refine Below.trans ?_ (Below.mono hw1 ?_)) | (with_reducible exact hw1.size) | omega | (simp <;> omega) | (simp <;> (have s := hw1.size; omega)) | (have s0 := hw1.size; (try simp at s0); (try simp); omega))))).mono ?_
  rintro e w2 ⟨a2, k2, rfl, hw2⟩
  have HG := Lib.hid (HG.out.later hw2)
  have s2 := hw2.size
  have b0 : Below w.heap.size w w2 := by repeat (first | (with_reducible exact Below.refl _ _) | (with_reducible refine Below.setCell ?_ ?_ _) | (with_reducible refine Below.drew ?_) | (with_reducible refine Below.alloc ?_ ?_ _) | (with_reducible refine Below.trans ?_ (Below.mono hw2 ?_)) | (with_reducible refine Below.trans ?_ (Below.mono hw1 ?_)) | (with_reducible exact hw2.size) | (with_reducible exact hw1.size) | omega | (simp <;> omega) | (simp <;> (have s := hw2.size; omega)) | (simp <;> (have s := hw1.size; omega)) | (have s0 := hw2.size; (try simp at s0); have s1 := hw1.size; (try simp at s1); (try simp); omega))
  have hrl : rl T ≠ [] := fun h => by
    have := rl_len T
    rw [h, HL.out] at this
    simp at this
    omega
  obtain ⟨g, go, rfl, hgl⟩ : ∃ g go, ao = some ⟨g, go, none⟩ ∧ LiesI w2 g go (rl T) := by
    rcases HG.out with h | h
    · exact absurd h hrl
    · exact h
  have glt : g < w2.heap.size := by
    have := rl_get T 0 (by rw [HL.out]; omega)
    exact World.block_lt_of_cell? w2 _ (hgl _ _ this.1)
  have G2 := Lib.hid (hgl.later (ba1 (o := .cells #[.int .i64 0, .int .i64 0, .int .i64 0, .int .i64 0, .int .i64 0] 41)))
  have R2 := Lib.hid (((R0.out.later hw1).later hw2).later (ba1 (o := .cells #[.int .i64 0, .int .i64 0, .int .i64 0, .int .i64 0, .int .i64 0] 41)))
  have B2 := Lib.hid (five_zeroL (w := w2) rfl)
  have b2 : Below w.heap.size w (w2.alloc (.cells #[.int .i64 0, .int .i64 0, .int .i64 0, .int .i64 0, .int .i64 0] 41)) := by repeat (first | (with_reducible exact Below.refl _ _) | (with_reducible refine Below.setCell ?_ ?_ _) | (with_reducible refine Below.drew ?_) | (with_reducible refine Below.alloc ?_ ?_ _) | (with_reducible refine Below.trans ?_ (Below.mono b0 ?_)) | (with_reducible exact b0.size) | omega | (simp <;> omega) | (simp <;> (have s := b0.size; omega)) | (have s0 := b0.size; (try simp at s0); (try simp); omega))
  simp at s1
  have hBs : w.heap.size + 2 ≤ w2.heap.size := by omega
  clear HG hgl hrl R0
  go_wp2
  generalize w2.alloc (.cells #[.int .i64 0, .int .i64 0, .int .i64 0, .int .i64 0, .int .i64 0] 41) = W0 at *
  generalize w2.heap.size = B at *
  clear hw1 hw2 hc1 zw10 b0 s1 s2
  go_loopw [9] (fun q wr => ∃ k : Nat, k ≤ m ∧ q = .int .i64 k ∧ Hid (IBox wr B (hl5 (T.take k))) ∧ Hid (IBox wr (w.heap.size + 1) [0, 0, 0, 0, 0]) ∧ Hid (LiesI wr g go (rl T)) ∧ Below w.heap.size w wr) (fun q _ => m - (intOf q).toNat)
  case atStart => exact ⟨0, by omega, rfl, by rw [List.take_zero]; exact B2, R2, G2, b2⟩
  case round =>
    obtain ⟨k, hk, rfl, hbx, hrx, hgx, hb⟩ := hrel
    clear b2 B2 R2 G2
    have hlB := hbx.out.lt
    have hrlt := hrx.out.lt
    by_cases hlt : k < m
    · have i1 : (k : Int) < (m : Int) := by omega
      have i2 : k < T.length := by have := HL.out; omega
      obtain ⟨e0, e1⟩ := rl_get T k i2
      have x5 := hgx.out _ _ e0
      have x6 : wr.cell? ⟨g, go + k * 2 + 1, none⟩ = _ := hgx.out _ _ e1
      have q1 := hl5_take i2
      have hgB : g ≠ B := by omega
      obtain ⟨t0, t1, t2⟩ := HI.out _ (List.getElem_mem i2)
      have cb := hcs_rng (T.take k)
      have cl : (T.take k).length ≤ 48 := by have := List.length_take_le' k T; have := HL.out; omega
      generalize hR : T[k] = r at *
      obtain ⟨t, d⟩ := r
      simp only at t0 t1 t2 x5 x6 q1
      subst t0
      have Q1 := Lib.hid q1
      have HBX := Lib.hid hbx.out
      unfold hl5 at hbx
      have x0 := hbx.out.at (i := 0) rfl
      have x1 := hbx.out.at (i := 1) rfl
      have x2 := hbx.out.at (i := 2) rfl
      have x3 := hbx.out.at (i := 3) rfl
      have x4 := hbx.out.at (i := 4) rfl
      have fz := hbx.out.free
      have b0 := cb (-2)
      have b1 := cb (-1)
      have b2 := cb 0
      have b3 := cb 1
      have b4 := cb 2
      clear q1 i2 e0 e1 hR cb hbx
      unfold hl5 at HBX
      have HB5 := HBX
      obtain ⟨hn, hhn⟩ : ∃ hn, hn = hl5 (T.take k) := ⟨_, rfl⟩
      generalize hcs (-2) (T.take k) = h0 at *
      generalize hcs (-1) (T.take k) = h1 at *
      generalize hcs 0 (T.take k) = h2 at *
      generalize hcs 1 (T.take k) = h3 at *
      generalize hcs 2 (T.take k) = h4 at *
      clear HBX hhn
      have ht : t = -2 ∨ t = -1 ∨ t = 0 ∨ t = 1 ∨ t = 2 := by omega
      rcases ht with rfl | rfl | rfl | rfl | rfl
      · go_wp2
        exact ⟨⟨k + 1, by omega, by go_num, Lib.hid (by rw [Q1.out]; simpa using HB5.out.put 0 (by simp) (h0 + 1)), Lib.hid (hrx.out.other (by omega)), Lib.hid (liesI_aside hgx.out (by simp; omega)), by repeat (first | (with_reducible exact Below.refl _ _) | (with_reducible refine Below.setCell ?_ ?_ _) | (with_reducible refine Below.drew ?_) | (with_reducible refine Below.alloc ?_ ?_ _) | (with_reducible refine Below.trans ?_ (Below.mono hb ?_)) | (with_reducible exact hb.size) | omega | (simp <;> omega) | (simp <;> (have s := hb.size; omega)) | (have s0 := hb.size; (try simp at s0); (try simp); omega))⟩, by simp [intOf]; omega⟩
      · go_wp2
        exact ⟨⟨k + 1, by omega, by go_num, Lib.hid (by rw [Q1.out]; simpa using HB5.out.put 1 (by simp) (h1 + 1)), Lib.hid (hrx.out.other (by omega)), Lib.hid (liesI_aside hgx.out (by simp; omega)), by repeat (first | (with_reducible exact Below.refl _ _) | (with_reducible refine Below.setCell ?_ ?_ _) | (with_reducible refine Below.drew ?_) | (with_reducible refine Below.alloc ?_ ?_ _) | (with_reducible refine Below.trans ?_ (Below.mono hb ?_)) | (with_reducible exact hb.size) | omega | (simp <;> omega) | (simp <;> (have s := hb.size; omega)) | (have s0 := hb.size; (try simp at s0); (try simp); omega))⟩, by simp [intOf]; omega⟩
      · go_wp2
        exact ⟨⟨k + 1, by omega, by go_num, Lib.hid (by rw [Q1.out]; simpa using HB5.out.put 2 (by simp) (h2 + 1)), Lib.hid (hrx.out.other (by omega)), Lib.hid (liesI_aside hgx.out (by simp; omega)), by repeat (first | (with_reducible exact Below.refl _ _) | (with_reducible refine Below.setCell ?_ ?_ _) | (with_reducible refine Below.drew ?_) | (with_reducible refine Below.alloc ?_ ?_ _) | (with_reducible refine Below.trans ?_ (Below.mono hb ?_)) | (with_reducible exact hb.size) | omega | (simp <;> omega) | (simp <;> (have s := hb.size; omega)) | (have s0 := hb.size; (try simp at s0); (try simp); omega))⟩, by simp [intOf]; omega⟩
      · go_wp2
        exact ⟨⟨k + 1, by omega, by go_num, Lib.hid (by rw [Q1.out]; simpa using HB5.out.put 3 (by simp) (h3 + 1)), Lib.hid (hrx.out.other (by omega)), Lib.hid (liesI_aside hgx.out (by simp; omega)), by repeat (first | (with_reducible exact Below.refl _ _) | (with_reducible refine Below.setCell ?_ ?_ _) | (with_reducible refine Below.drew ?_) | (with_reducible refine Below.alloc ?_ ?_ _) | (with_reducible refine Below.trans ?_ (Below.mono hb ?_)) | (with_reducible exact hb.size) | omega | (simp <;> omega) | (simp <;> (have s := hb.size; omega)) | (have s0 := hb.size; (try simp at s0); (try simp); omega))⟩, by simp [intOf]; omega⟩
      · go_wp2
        exact ⟨⟨k + 1, by omega, by go_num, Lib.hid (by rw [Q1.out]; simpa using HB5.out.put 4 (by simp) (h4 + 1)), Lib.hid (hrx.out.other (by omega)), Lib.hid (liesI_aside hgx.out (by simp; omega)), by repeat (first | (with_reducible exact Below.refl _ _) | (with_reducible refine Below.setCell ?_ ?_ _) | (with_reducible refine Below.drew ?_) | (with_reducible refine Below.alloc ?_ ?_ _) | (with_reducible refine Below.trans ?_ (Below.mono hb ?_)) | (with_reducible exact hb.size) | omega | (simp <;> omega) | (simp <;> (have s := hb.size; omega)) | (have s0 := hb.size; (try simp at s0); (try simp); omega))⟩, by simp [intOf]; omega⟩
    · obtain rfl : k = m := by omega
      have e : T.take k = T := List.take_of_length_le (by rw [HL.out]; exact Nat.le_refl _)
      rw [e] at hbx
      unfold hl5 at hbx
      have x0 := hbx.out.at (i := 0) rfl
      have x1 := hbx.out.at (i := 1) rfl
      have x2 := hbx.out.at (i := 2) rfl
      have x3 := hbx.out.at (i := 3) rfl
      have x4 := hbx.out.at (i := 4) rfl
      have y0 := hrx.out.at (i := 0) rfl
      have y1 := hrx.out.at (i := 1) rfl
      have y2 := hrx.out.at (i := 2) rfl
      have y3 := hrx.out.at (i := 3) rfl
      have y4 := hrx.out.at (i := 4) rfl
      have fy := hrx.out.free
      have hne : w.heap.size + 1 ≠ B := by omega
      clear hbx e
      go_wp2
      refine bodyPost_ret (v := .tuple #[h5 T, .int .i64 0]) ?_ rfl ⟨rfl, ?_⟩
      · simp [results, Tryz.results17, go_sem, y0, y1, y2, y3, y4, h5]
      · repeat (first | (with_reducible exact Below.refl _ _) | (with_reducible refine Below.setCell ?_ ?_ _) | (with_reducible refine Below.drew ?_) | (with_reducible refine Below.alloc ?_ ?_ _) | (with_reducible refine Below.trans ?_ (Below.mono hb ?_)) | (with_reducible exact hb.size) | omega | (simp <;> omega) | (simp <;> (have s := hb.size; omega)) | (have s0 := hb.size; (try simp at s0); (try simp); omega))
end Go.Proofs.YtjidbajcnomceaaGreat
