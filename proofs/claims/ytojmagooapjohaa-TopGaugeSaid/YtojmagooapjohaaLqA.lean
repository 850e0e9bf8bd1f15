/- The plaquettes of a field, on both sides: what a good field and a bad one lead to.
Conditions: those written at each theorem. -/
import Derived.Test.YtojmagooapjohaaPlaqA
import Derived.Test.YtojmagooapjohaaLtA
import Derived.Test.YtojmagooapjohaaLmA
import Derived.Test.YtojmagooapjohaaLooA
import Derived.Test.YtojmagooapjohaaIsSm
import Derived.Test.YtojmagooapjohaaIBox
import Derived.Test.YtojmagooapjohaaMathA
namespace Go.Proofs.Ytojmagooapjohaa
set_option linter.unusedVariables false
set_option linter.unusedSimpArgs false
set_option maxRecDepth 1000000
open Go.RowKit
open Um Tm

theorem plaquettes_lies (a b c : Int) (bl off cap N : Nat) (L : List Q) (w : World) (hl : Lies w bl off L) (hF : Fl a b c L) (hN : (N : Int) = a * b * c) :
    Calls Try.prog 64 #[.agg #[.int .i64 a, .int .i64 b, .int .i64 c, .slice (some ⟨bl, off, none⟩) L.length cap]] w fun e w' => ∃ g k : Nat, e = .returned (.tuple #[.slice (some ⟨g, 0, none⟩) (3 * N) k, .int .i64 0]) ∧ Lies w' g 0 (pqs a b c L (3 * N)) ∧ Below w.heap.size w w' := by
  have hp := hF.z.p
  have hn := hF.n
  obtain ⟨-, -, p3, -⟩ := mul_rng hF.z.a1 hF.z.a4 hF.z.b1 hF.z.b4 hF.z.c1 hF.z.c4
  refine (plaquettes_good a b c bl off cap N L w hl hF (Fl_fldR hF) hF.z hN (by omega)).mono ?_
  rintro e w' ⟨v, he, hown, hb⟩
  rw [pqs_plqs] at hown
  obtain ⟨g, k, rfl, -⟩ := owned5_some hown (by omega)
  exact ⟨g, k, he, owned_lies (T := 36) (base := w.heap.size) (cap := k) (by rw [pqs_len]; exact hown), hb⟩

end Go.Proofs.Ytojmagooapjohaa

/- The traces of all plaquettes, and their mean, as the program and the document's answers make them.
Conditions: the lists lie in memory as it is written at each theorem. -/
namespace Go.Proofs.Ytojmagooapjohaa
set_option linter.unusedVariables false
set_option linter.unusedSimpArgs false
set_option maxRecDepth 1000000
open Go.RowKit
open Um Tm Lm

theorem infoRt : (Try.prog.info? 47).map (fun i => (i.zero, i.size, i.bytes)) = some (some (.agg #[.int .i64 0, .int .i64 0]), 2, 16) := by kernel_rfl
theorem rt_ones (x y : Int) : ∀ u ∈ [vi x, vi y], u.oneCell' = true := fun u hu => by
  simp at hu
  rcases hu with rfl | rfl <;> rfl
theorem rl_take {l : List (Int × Int)} {k : Nat} (h : k < l.length) : (rl (l.take (k + 1))).map vi = (rl (l.take k)).map vi ++ [vi l[k].1, vi l[k].2] := by
  unfold rl
  rw [take_flat _ l k h, List.map_append]
  rfl
theorem rl_owned {w : World} {base : Nat} {v : Value} {n : Nat} {l : List (Int × Int)} (h : w.ownsRow base 47 2 v n ((rl l).map vi)) (hl : l.length = n) : ∃ ao cap, v = .slice ao n cap ∧ LiesOI w ao (rl l) := by
  have hc := h.2
  rcases hc with ⟨rfl, h0⟩ | ⟨g, cap, cur, rfl, hg, _⟩
  · refine ⟨none, 0, by rw [h0], .inl ?_⟩
    rw [h0] at hl
    rw [List.length_eq_zero_iff.1 hl]
    rfl
  · refine ⟨_, cap, rfl, .inr ⟨g, 0, rfl, fun i x hx => ?_⟩⟩
    have hi : i < (rl l).length := (List.getElem?_eq_some_iff.1 hx).1
    rw [rl_len] at hi
    rw [Nat.zero_add, h.cellAt i (by omega), List.getElem?_map, hx]
    rfl
theorem lies_grownL {w w1 : World} {b off : Nat} {L : List Q} {row : Option Nat} (h : Lies w b off L) (hg : w.grownBy w1 row) (ne : some b ≠ row) : Lies w1 b off L := fun i x hx => by
  obtain ⟨x0, x1, x2, x3, x4⟩ := h i x hx
  exact ⟨hg.cell x0 ne, hg.cell x1 ne, hg.cell x2 ne, hg.cell x3 ne, hg.cell x4 ne⟩
/-- traces of units that lie in a row -/
theorem pq_ups (a b c : Int) (L : List Q) (i : Nat) : ∃ l, l.length = 4 ∧ (∀ t ∈ l, IsStep t) ∧ pq a b c L i = al a b c L ((i : Int) / 3) l := ⟨_, pth_len _, pth_steps _, rfl⟩
theorem pq_V {a b c : Int} {L : List Q} (hF : Fl a b c L) {i : Nat} (hi : (i : Int) < 3 * (a * b * c)) : V (pq a b c L i) ∧ Rt 2 (tr (pq a b c L i)) := by
  obtain ⟨l, h4, hs, e⟩ := pq_ups a b c L i
  have h := hF.ups ((i : Int) / 3) l (by omega) (by omega) hs
  rw [e]
  exact ⟨few_V _ h (by rw [ups_len]; omega), tr_rt _ h (by rw [ups_len]; omega)⟩
def trs (a b c : Int) (L : List Q) (k : Nat) : List (Int × Int) := (pqs a b c L k).map tr
theorem trs_len (a b c : Int) (L : List Q) (k : Nat) : (trs a b c L k).length = k := by simp [trs, pqs_len]
theorem trs_Rt {a b c : Int} {L : List Q} (hF : Fl a b c L) {k : Nat} (hk : (k : Int) ≤ 3 * (a * b * c)) : ∀ r ∈ trs a b c L k, Rt 2 r := by
  intro r hr
  simp only [trs, pqs, List.mem_map, List.mem_range] at hr
  obtain ⟨x, ⟨i, hi, rfl⟩, rfl⟩ := hr
  exact (pq_V hF (by omega)).2
theorem pqs_V {a b c : Int} {L : List Q} (hF : Fl a b c L) {k : Nat} (hk : (k : Int) ≤ 3 * (a * b * c)) : ∀ x ∈ pqs a b c L k, V x := by
  intro x hx
  simp only [pqs, List.mem_map, List.mem_range] at hx
  obtain ⟨i, hi, rfl⟩ := hx
  exact (pq_V hF (by omega)).1
set_option maxHeartbeats 6400000 in
theorem tracesL_ok (a b c : Int) (bl off cap N : Nat) (L : List Q) (w : World) (hl : Lies w bl off L) (hF : Fl a b c L) (hN : (N : Int) = a * b * c) : Calls Try.prog 30 #[.agg #[.int .i64 a, .int .i64 b, .int .i64 c, .slice (some ⟨bl, off, none⟩) L.length cap]] w fun e w' => (∃ (ao : Option Addr) (k : Nat), e = .returned (.tuple #[.slice ao (3 * N) k, .int .i64 0]) ∧ LiesOI w' ao (rl (trs a b c L (3 * N)))) ∧ Below w.heap.size w w' := by
  obtain ⟨-, -, p3, -⟩ := mul_rng hF.z.a1 hF.z.a4 hF.z.b1 hF.z.b4 hF.z.c1 hF.z.c4
  have hp16 := hF.z.p
  have c2 := fun (W : World) (h : Lies W bl off L) => plaquettes_lies a b c bl off cap N L W h hF hN
  have hPV := pqs_V hF (k := 3 * N) (by omega)
  have hPL := pqs_len a b c L (3 * N)
  obtain ⟨i0, hi, hz0, hz1, hz2⟩ := info_parts infoRt
  have H := Lib.hid hl
  have n48 : 3 * N ≤ 48 := by omega
  have m0 : 0 < 3 * N := by omega
  have hl2 : 3 * N ≤ maxLen := by unfold maxLen; omega
  have hl3 : i0.bytes * (3 * N) ≤ 281474976710656 := by rw [hz2]; omega
  unfold trs
  clear hl hF hN p3 hp16
  generalize pqs a b c L (3 * N) = P at *
  generalize 3 * N = m at *
  obtain ⟨T, hT⟩ : ∃ T, T = P.map tr := ⟨_, rfl⟩
  rw [← hT]
  have c3 : ∀ (k : Nat) (hk : k < P.length) (hk2 : k < T.length) (W : World), Calls Try.prog 49 #[.agg #[.int .i64 P[k].a, .int .i64 P[k].b, .int .i64 P[k].c, .int .i64 P[k].d, .int .i64 P[k].n]] W fun e w' => e = .returned (.tuple #[.agg #[.int .i64 (T[k]).1, .int .i64 (T[k]).2], .int .i64 0]) ∧ Below W.heap.size W w' := fun k hk hk2 W => by
    subst hT
    simp only [List.getElem_map]
    exact trace_ok _ W (hPV _ (List.getElem_mem hk))
  have hTL : T.length = P.length := by rw [hT]; simp
  clear hT
  have HC := Lib.hid c3
  have HL := Lib.hid hPL
  have HTL := Lib.hid hTL
  have H0 := Lib.hid (show (rl (T.take 0)).map vi = [] by rw [List.take_zero]; rfl)
  clear hPV hPL c3 hTL
  go_enter Try.func30, Try.ntmps30
  go_wp2_with (first
    | ((with_reducible refine (c2 _ (H.out.later (by repeat (first | (with_reducible exact Below.refl _ _) | (with_reducible refine Below.setCell ?_ ?_ _) | (with_reducible refine Below.drew ?_) | (with_reducible refine Below.alloc ?_ ?_ _) | omega | (simp <;> omega))))).mono ?_); clear c2; rintro e w2 ⟨g, kg, rfl, hg, hw2⟩; have HG := Lib.hid hg; clear hg; have s2 := hw2.size)
    | (at_make; refine wpList_make_own _ rfl _ _ 66 rfl w2.heap.size 47 i0 _ 2 Try.underlying66 hi hz0 hz1 _ _ _ m rfl rfl rfl hl3 hl2 (Nat.le_refl _) ?_; intro w3 hown hgrow))
  have b0 : Below w.heap.size w w2 := by repeat (first | (with_reducible exact Below.refl _ _) | (with_reducible refine Below.setCell ?_ ?_ _) | (with_reducible refine Below.drew ?_) | (with_reducible refine Below.alloc ?_ ?_ _) | (with_reducible refine Below.trans ?_ (Below.mono hw2 ?_)) | (with_reducible exact hw2.size) | omega | (simp <;> omega) | (simp <;> (have s := hw2.size; omega)) | (have s0 := hw2.size; (try simp at s0); (try simp); omega))
  have b2 : Below w2.heap.size w2 w3 := (Below.refl _ _).grown hgrow (by omega) (by simp)
  have HG3 := Lib.hid (HG.out.later b2)
  have s4 : w2.heap.size + 1 ≤ w3.heap.size := by
    have := (hown.lt w2.heap.size rfl).2
    omega
  have s5 : w.heap.size + 1 ≤ w2.heap.size := by simp at s2; omega
  have b3 : Below w.heap.size w w3 := b0.trans (b2.mono b0.size)
  have glt : g < w2.heap.size := by
    have hp : 0 < P.length := by rw [HL.out]; omega
    have := HG.out 0 _ (List.getElem?_eq_getElem hp)
    exact World.block_lt_of_cell? w2 _ this.1
  clear hgrow hw2 b2 HG s2 b0
  have HB0 := Lib.hid b3
  generalize w2.heap.size = B at *
  go_loopw [6, 8, 9, 10, 24] (fun f _ _ _ q wr => ∃ k : Nat, k ≤ m ∧ q = .int .i64 k ∧ f = .slice (some ⟨B, 0, none⟩) k m ∧ Hid (wr.ownsRow B 47 2 (.slice (some ⟨B, 0, none⟩) k m) k ((rl (T.take k)).map vi)) ∧ Hid (Lies wr g 0 P) ∧ Below w.heap.size w wr ∧ B + 1 ≤ wr.heap.size) (fun _ _ _ _ q _ => m - (intOf q).toNat)
  case atStart => exact ⟨0, by omega, rfl, rfl, Lib.hid (by rw [H0.out]; exact hown), HG3, b3, s4⟩
  case round =>
    obtain ⟨k, hk, rfl, rfl, hown, hgr, hb, hgs⟩ := hrel
    clear b3 HG3
    have hbs := hb.size
    by_cases hlt : k < m
    · have i1 : (k : Int) < (m : Int) := by omega
      have i2 : k < P.length := by have := HL.out; omega
      have i3 : k < T.length := by have := HTL.out; omega
      obtain ⟨l0, l1, l2, l3, l4⟩ := hgr.out k _ (List.getElem?_eq_getElem i2)
      simp only [Nat.zero_add] at l0 l1 l2 l3 l4
      have glr := World.block_lt_of_cell? wr _ l0
      have q1 := rl_take i3
      have d0 := HC.out k i2 i3
      generalize P[k] = x at *
      generalize T[k] = y at *
      have Q1 := Lib.hid q1
      clear q1 i2 i3
      go_wp2_with (first
        | ((with_reducible refine (d0 _).mono ?_); clear d0; rintro e w4 ⟨rfl, hw4⟩; have hc4 := Tail.cells hw4; have z4 := Nat.lt_of_lt_of_le (n := wr.heap.size) (by simp) hw4.size; have s6 := hw4.size; have b4 : Below w.heap.size w w4 := (by repeat (first | (with_reducible exact Below.refl _ _) | (with_reducible refine Below.setCell ?_ ?_ _) | (with_reducible refine Below.drew ?_) | (with_reducible refine Below.alloc ?_ ?_ _) | (with_reducible refine Below.trans ?_ (Below.mono hw4 ?_)) | (with_reducible refine Below.trans ?_ (Below.mono hb ?_)) | (with_reducible exact hw4.size) | (with_reducible exact hb.size) | omega | (simp <;> omega) | (simp <;> (have s := hw4.size; omega)) | (simp <;> (have s := hb.size; omega)) | (have s0 := hw4.size; (try simp at s0); have s1 := hb.size; (try simp at s1); (try simp); omega))); have HO4 := Lib.hid (owned_later (hown.out.alloc _) hw4); have HG4 := Lib.hid ((hgr.out.later ba1).later hw4))
        | (at_builtin; refine wpList_append_fits _ rfl (.tmp 36) (.tmp 38) 66 rfl B 47 i0 2 Try.underlying66 hi hz1 B k m ((rl (T.take k)).map vi) rfl ((HO4.out.alloc _).alloc _) ⟨w4.heap.size + 1, 0, none⟩ 1 1 [vi y.1, vi y.2] rfl rfl (two_cells rfl (by simp [go_sem, vi]) (by simp [go_sem, vi])) (rt_ones _ _) (by omega) ?_; intro w5 hown5 hgrow5))
      have hb5 : Below w.heap.size w w5 := Below.grown (by repeat (first | (with_reducible exact Below.refl _ _) | (with_reducible refine Below.setCell ?_ ?_ _) | (with_reducible refine Below.drew ?_) | (with_reducible refine Below.alloc ?_ ?_ _) | (with_reducible refine Below.trans ?_ (Below.mono b4 ?_)) | (with_reducible exact b4.size) | omega | (simp <;> omega) | (simp <;> (have s := b4.size; omega)) | (have s0 := b4.size; (try simp at s0); (try simp); omega))) hgrow5 (by simp; have := b4.size; omega) (fun j hj => by simp at hj; omega)
      have hG5 : Hid (Lies w5 g 0 P) := Lib.hid (lies_grownL (HG4.out.later ba2) hgrow5 (by simp; omega))
      have ho : w5.ownsRow B 47 2 (.slice (some ⟨B, 0, none⟩) (k + 1) m) (k + 1) ((rl (T.take (k + 1))).map vi) := by rw [Q1.out]; exact hown5
      have s7 := hgrow5.size
      simp at s7 s6
      clear hown5 hgrow5 hown hw4 hgr
      go_wp2
      exact ⟨⟨k + 1, by omega, by go_num, rfl, Lib.hid ho, hG5, hb5, by omega⟩, by simp [intOf]; omega⟩
    · obtain rfl : k = m := by omega
      have e : T.take k = T := List.take_of_length_le (by rw [HTL.out, HL.out]; exact Nat.le_refl _)
      have ho := hown.out
      rw [e] at ho
      obtain ⟨ao, cv, hv, hli⟩ := rl_owned ho (by rw [HTL.out, HL.out])
      simp only [Value.slice.injEq] at hv
      obtain ⟨rfl, -, rfl⟩ := hv
      have HLI := Lib.hid hli
      clear hown ho hli
      go_wp2
      go_ret2
      exact ⟨⟨_, _, rfl, HLI.out⟩, hb⟩
end Go.Proofs.Ytojmagooapjohaa

/- The mean of the traces of all plaquettes, and how many have each trace, as the program and the document's answers make them.
Conditions: the lists lie in memory as it is written at each theorem. -/
namespace Go.Proofs.Ytojmagooapjohaa
set_option linter.unusedVariables false
set_option linter.unusedSimpArgs false
set_option maxRecDepth 1000000
open Go.RowKit
open Um Tm Lm Km

def z5 : Value := .agg #[.int .i64 0, .int .i64 0, .int .i64 0, .int .i64 0, .int .i64 0]
/-- how many numbers have a numerator -/
def hcs (v : Int) : List (Int × Int) → Int
  | [] => 0
  | r :: l => (if r.1 = v then 1 else 0) + hcs v l
theorem hcs_snoc (v : Int) (l : List (Int × Int)) (r : Int × Int) : hcs v (l ++ [r]) = hcs v l + if r.1 = v then 1 else 0 := by
  induction l with
  | nil => simp [hcs]
  | cons x l ih => simp only [List.cons_append, hcs, ih]; omega
theorem hcs_rng (l : List (Int × Int)) (v : Int) : 0 ≤ hcs v l ∧ hcs v l ≤ l.length := by
  induction l with
  | nil => simp [hcs]
  | cons x l ih => simp only [hcs, List.length_cons]; split <;> omega
def hl5 (l : List (Int × Int)) : List Int := [hcs (-2) l, hcs (-1) l, hcs 0 l, hcs 1 l, hcs 2 l]
def h5 (l : List (Int × Int)) : Value := .agg #[.int .i64 (hcs (-2) l), .int .i64 (hcs (-1) l), .int .i64 (hcs 0 l), .int .i64 (hcs 1 l), .int .i64 (hcs 2 l)]
theorem hl5_take {l : List (Int × Int)} {k : Nat} (h : k < l.length) : hl5 (l.take (k + 1)) = [hcs (-2) (l.take k) + if l[k].1 = -2 then 1 else 0, hcs (-1) (l.take k) + if l[k].1 = -1 then 1 else 0, hcs 0 (l.take k) + if l[k].1 = 0 then 1 else 0, hcs 1 (l.take k) + if l[k].1 = 1 then 1 else 0, hcs 2 (l.take k) + if l[k].1 = 2 then 1 else 0] := by
  unfold hl5
  rw [List.take_succ_eq_append_getElem h]
  simp only [hcs_snoc]
/-- what the counts tell -/
theorem hcs_sum {l : List (Int × Int)} (h : ∀ r ∈ l, r.2 = 1 ∧ -2 ≤ r.1 ∧ r.1 ≤ 2) : hcs (-2) l + hcs (-1) l + hcs 0 l + hcs 1 l + hcs 2 l = l.length ∧ sumR l = (2 * hcs 2 l + hcs 1 l - hcs (-1) l - 2 * hcs (-2) l) * MM := by
  induction l with
  | nil => simp [hcs, sumR]
  | cons r l ih =>
    obtain ⟨i1, i2⟩ := ih fun s hs => h s (by simp [hs])
    obtain ⟨h1, h2, h3⟩ := h r (by simp)
    have e : sumR (r :: l) = wt r + sumR l := by simp [sumR]
    have ew : wt r = r.1 * MM := by unfold wt; rw [h1, Int.ediv_one]
    rw [e, ew, i2, List.length_cons]
    have : r.1 = -2 ∨ r.1 = -1 ∨ r.1 = 0 ∨ r.1 = 1 ∨ r.1 = 2 := by omega
    rcases this with e5 | e5 | e5 | e5 | e5 <;> (refine ⟨?_, ?_⟩ <;> simp only [hcs, e5, MM] <;> simp <;> omega)
theorem trs_I {a b c : Int} {L : List Q} (hF : Fl a b c L) (h : ∀ x ∈ L, IsS x) {k : Nat} (hk : (k : Int) ≤ 3 * (a * b * c)) : ∀ r ∈ trs a b c L k, r.2 = 1 ∧ -2 ≤ r.1 ∧ r.1 ≤ 2 := by
  intro r hr
  simp only [trs, pqs, List.mem_map, List.mem_range] at hr
  obtain ⟨x, ⟨i, hi, rfl⟩, rfl⟩ := hr
  have hs : IsS (pq a b c L i) := al_S hF h _ _ (by omega) (by omega) (pth_steps _)
  obtain ⟨e, h1, h2⟩ := hs.tr
  rw [e]
  exact ⟨rfl, h1, h2⟩
theorem liesI_aside {w : World} {g off : Nat} {l : List Int} {p : Addr} {v : Value} (h : LiesI w g off l) (hne : g ≠ p.block) : LiesI (w.setCell p v) g off l := fun i x hx => by
  rw [World.cell?_setCell_other _ _ _ _ (fun e => hne (congrArg Addr.block e).symm)]
  exact h i x hx
set_option maxHeartbeats 1600000 in
theorem tracesL_bad (a b c r : Int) (ao : Option Addr) (cap : Nat) (L : List Q) (w : World) (h : LiesO w ao L) (hr : fldR a b c L r) (h0 : r ≠ 0) (hlen : L.length ≤ 1000000) : Calls Try.prog 30 #[.agg #[.int .i64 a, .int .i64 b, .int .i64 c, .slice ao L.length cap]] w fun e w' => e = .returned (.tuple #[.slice none 0 0, .int .i64 r]) ∧ Below w.heap.size w w' := by
  have q1 : (r == 0) = false := by simpa using h0
  have q2 : (r != 0) = true := by simpa using h0
  have c1 := fun (W : World) (h : LiesO W ao L) => plaquettes_bad a b c r ao cap L W h hr hlen q1 q2
  have H := Lib.hid h
  clear h hr h0
  go_enter Try.func30, Try.ntmps30
  go_wp2_with (fail)
  refine (c1 _ (H.out.later (by repeat (first | (with_reducible exact Below.refl _ _) | (with_reducible refine Below.setCell ?_ ?_ _) | (with_reducible refine Below.drew ?_) | (with_reducible refine Below.alloc ?_ ?_ _) | omega | (simp <;> omega))))).mono ?_
  rintro e w1 ⟨rfl, hw1⟩
  go_wp2
  go_ret2
  exact ⟨rfl, by repeat (first | (with_reducible exact Below.refl _ _) | (with_reducible refine Below.setCell ?_ ?_ _) | (with_reducible refine Below.drew ?_) | (with_reducible refine Below.alloc ?_ ?_ _) | (with_reducible refine Below.trans ?_ (Below.mono hw1 ?_)) | (with_reducible exact hw1.size) | omega | (simp <;> omega) | (simp <;> (have s := hw1.size; omega)) | (have s0 := hw1.size; (try simp at s0); (try simp); omega))⟩
end Go.Proofs.Ytojmagooapjohaa
