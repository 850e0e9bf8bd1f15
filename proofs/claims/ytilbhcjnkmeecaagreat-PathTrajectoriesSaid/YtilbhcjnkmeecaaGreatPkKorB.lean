/- Small fields: their numbers and links.
Conditions: those written at each theorem. -/
import Derived.Test.YtilbhcjnkmeecaaGreatPkKorA
import Derived.Test.YtilbhcjnkmeecaaGreatPkPutC
import Derived.Test.YtilbhcjnkmeecaaGreatPkFromN
import Derived.Test.YtilbhcjnkmeecaaGreatPkKfC
namespace Go.Proofs.YtilbhcjnkmeecaaGreat
set_option linter.unusedVariables false
set_option linter.unusedSimpArgs false
set_option maxRecDepth 1000000
open Go.RowKit
open Um Tm Cm Km

theorem numsR_smR {a b c : Int} {L : List Q} {ns : List Int} (h : numsR a b c L ns 0) : fldR a b c L 0 ∧ smR L (L.map nm) true ∧ (∀ x ∈ L, IsS x) := by
  rcases h with ⟨-, h, -⟩ | ⟨h1, ⟨h2, -⟩ | ⟨-, h⟩⟩
  · exact absurd rfl h
  · obtain ⟨e, hS⟩ := smR_nm h2
    exact ⟨h1, e ▸ h2, hS⟩
  · simp at h
theorem fldR_FlK {a b c : Int} {L : List Q} (h : fldR a b c L 0) : Fl a b c L := by
  obtain ⟨h1, h2, h3⟩ := fldR_ok h
  exact ⟨h1, h2, h3⟩
end Go.Proofs.YtilbhcjnkmeecaaGreat

/- A trajectory's beginning with its momenta, and its end, as the program makes them.
Conditions: those written at each theorem. -/
namespace Go.Proofs.YtilbhcjnkmeecaaGreat
set_option linter.unusedVariables false
set_option linter.unusedSimpArgs false
set_option maxRecDepth 1000000
open Go.RowKit
open Um Tm Cm Km

theorem liesI_news {w : World} {b off : Nat} {l : List Int} (h : LiesI w b off l) : ∀ j u, (l.map vi)[j]? = some u → w.cell? (Addr.add ⟨b, off, none⟩ j) = some u := by
  intro j u hu
  have hadd : (⟨b, off, none⟩ : Addr).add j = ⟨b, off + j, none⟩ := by unfold Addr.add; split <;> simp_all
  rw [hadd]
  rw [List.getElem?_map] at hu
  cases hl : l[j]? with
  | none => rw [hl] at hu; simp at hu
  | some x => rw [hl] at hu; simp at hu; subst hu; exact h j x hl
theorem liesI_ones (l : List Int) : ∀ u ∈ l.map vi, u.oneCell' = true := fun u hu => by
  rw [List.mem_map] at hu
  obtain ⟨x, -, rfl⟩ := hu
  rfl
theorem owned_IBoxK {w : World} {base : Nat} {T : TypeId} {g cap n : Nat} {l : List Int} (hl : l.length = n * 3) (h : w.ownsRow base T 3 (.slice (some ⟨g, 0, none⟩) n cap) n (l.map vi)) : IBox w g l ∧ base ≤ g := by
  have hc := h.2
  rcases hc with ⟨h', _⟩ | ⟨g', cap', cur, h', hb, hg, _⟩
  · simp at h'
  · simp only [Value.slice.injEq, Option.some.injEq, Addr.mk.injEq, and_true, true_and] at h'
    obtain ⟨rfl, -⟩ := h'
    refine ⟨⟨fun i x hx => ?_, fun j => by simp [World.frozen?, hg], (Array.getElem?_eq_some_iff.1 hg).1⟩, hb⟩
    have hi : i < l.length := (List.getElem?_eq_some_iff.1 hx).1
    rw [Nat.zero_add, h.cellAt i (by omega), List.getElem?_map, hx]
    rfl
def RetK (m n : Nat) (l : List Int) (e : Ending) (w' : World) : Prop := ∃ g k : Nat, e = .returned (.slice (some ⟨g, 0, none⟩) n k) ∧ IBox w' g l ∧ m ≤ g
set_option maxHeartbeats 1600000 in
theorem cloneK_any (bl off cap n : Nat) (l : List Int) (w : World) (hl : LiesI w bl off l) (hn : l.length = n * 3) (hpos : 0 < n) (hlen : n ≤ 100) : Calls Tryz.prog 60 #[.slice (some ⟨bl, off, none⟩) n cap] w fun e w' => RetK w.heap.size n l e w' ∧ Below w.heap.size w w' := by
  obtain ⟨i0, hi, hz0, hz1, hz2⟩ := info_parts infoK
  have H := Lib.hid hl
  have HN := Lib.hid hn
  have q := fun W : World => Lib.run_eql_slice_nil (P := Tryz.prog) W 26 38 (some ⟨bl, off, none⟩) n cap 0 0 Tryz.underlying26
  clear hl hn
  go_enter Tryz.func60, Tryz.ntmps60
  go_wp2_with (at_builtin; refine wpList_append_own _ rfl (.tmp 5) (.tmp 6) 26 rfl w.heap.size 38 i0 _ 3 24 Tryz.underlying26 hi hz0 hz1 hz2 rfl (by decide) (.slice (some ⟨w.heap.size, 0, none⟩) 0 0) 0 [] rfl (World.ownsRow_lit w #[] 0 (Nat.le_refl _) (by unfold maxLen; omega) (by simp)) ⟨bl, off, none⟩ n cap (l.map vi) rfl (by rw [List.length_map]; exact HN.out) (liesI_news (H.out.later ((Below.refl _ _).alloc (Nat.le_refl _) _))) (liesI_ones l) (by unfold maxLen; omega) (by omega) (by simp) ?_; intro v' w1 hown hgrow _)
  rw [Nat.zero_add, List.nil_append] at hown
  obtain ⟨g, k, rfl, hgb, -⟩ := owned_liesK hown hpos HN.out
  obtain ⟨LB, hgb2⟩ := owned_IBoxK HN.out hown
  have hb := ((Below.refl w.heap.size w).alloc (Nat.le_refl _) (.cells #[] 38)).grown hgrow (by simp) (fun j hj => by simp [Value.ownBlock] at hj; omega)
  have HLB := Lib.hid LB
  have HHB := Lib.hid hb
  clear hown hgrow LB hb
  go_ret
  exact ⟨⟨g, k, by simp, HLB.out, hgb⟩, HHB.out⟩
/-- a course with momenta, new -/
def RetS (a b c : Int) (n N m : Nat) (L : List Q) (l : List Int) (e : Ending) (w' : World) : Prop := ∃ B gl gx gp gm kl kx km : Nat, e = .returned (.tuple #[.pointer (some ⟨B, 0, none⟩), .int .i64 0]) ∧ CO a b c n N w' m B gl gx gp kl kx L ∧ CM n w' m B gl gx gp gm km l
theorem co_d6 {a b c : Int} {n N : Nat} {w : World} {m B gl gx gp kl kx : Nat} {L : List Q} (k : CO a b c n N w m B gl gx gp kl kx L) (hN : 0 < N) : gx ≠ B := fun e => by
  have h1 := k.nx 0 hN 5 (by omega) (by omega)
  rw [e, Nat.zero_mul, Nat.zero_add, k.cx] at h1
  simp at h1
theorem co_mom {a b c : Int} {n N : Nat} {w : World} {m B gl gx gp kl kx : Nat} {L : List Q} (k : CO a b c n N w m B gl gx gp kl kx L) (hN : 0 < N) (v : Value) : CO a b c n N (w.setCell ⟨B, 4, none⟩ v) m B gl gx gp kl kx L := by
  have hg := grown_setCell w ⟨B, 4, none⟩ v
  have o : ∀ (j : Nat) (x : Value), j ≠ 4 → w.cell? ⟨B, j, none⟩ = some x → (w.setCell ⟨B, 4, none⟩ v).cell? ⟨B, j, none⟩ = some x := fun j x hj hx => by
    rw [World.cell?_setCell_other _ _ _ _ (by simp <;> omega)]
    exact hx
  exact ⟨o _ _ (by omega) k.z0, o _ _ (by omega) k.z1, o _ _ (by omega) k.z2, o _ _ (by omega) k.cl, o _ _ (by omega) k.cx, o _ _ (by omega) k.cp, fun j => by rw [World.frozen?_setCell]; exact k.fb j, k.li.grown hg (by simp; exact Ne.symm k.d5), k.nx.grown hg (by simp; exact co_d6 k hN), k.pr.grown hg (by simp; exact Ne.symm k.d3), k.ml, k.mx, k.mp, k.mb, k.d1, k.d2, k.d3, k.d4, k.d5, by simp [World.setCell]; exact k.lb⟩
set_option maxHeartbeats 3200000 in
theorem start_bad (a b c r0 r : Int) (ao po : Option Addr) (cap pc n : Nat) (L : List Q) (ns l : List Int) (w : World) (h : LiesO w ao L) (hp : LiesOI w po l) (hl : l.length = n * 3) (hr : numsR a b c L ns r0) (hv : vkR L.length n l r0 r) (h0 : r ≠ 0) (hlen : L.length ≤ 1000000) : Calls Tryz.prog 29 #[.agg #[.int .i64 a, .int .i64 b, .int .i64 c, .slice ao L.length cap], .slice po n pc] w fun e w' => e = .returned (.tuple #[.pointer none, .int .i64 r]) ∧ Below w.heap.size w w' := by
  have H := Lib.hid h
  have HP := Lib.hid hp
  have c1 : ∀ W : World, LiesO W ao L → LiesOI W po l → Calls Tryz.prog 58 #[.agg #[.int .i64 a, .int .i64 b, .int .i64 c, .slice ao L.length cap], .slice po n pc] W fun e w' => e = .returned (.int .i64 r) ∧ Below W.heap.size W w' := fun W h h2 => validateK_any a b c r0 r ao po cap pc n L ns l W h h2 hl hr hv hlen
  have h0' : (r != 0) = true := by simpa using h0
  clear h hp hr hv h0 hl
  go_enter Tryz.func29, Tryz.ntmps29
  go_wp2_with ((with_reducible refine (c1 _ (H.out.later (by repeat (first | (with_reducible exact Below.refl _ _) | (with_reducible refine Below.setCell ?_ ?_ _) | (with_reducible refine Below.drew ?_) | (with_reducible refine Below.alloc ?_ ?_ _) | omega | (simp <;> omega)))) (HP.out.later (by repeat (first | (with_reducible exact Below.refl _ _) | (with_reducible refine Below.setCell ?_ ?_ _) | (with_reducible refine Below.drew ?_) | (with_reducible refine Below.alloc ?_ ?_ _) | omega | (simp <;> omega))))).mono ?_); rintro e w1 ⟨rfl, hw1⟩)
  go_ret2
  exact ⟨rfl, by repeat (first | (with_reducible exact Below.refl _ _) | (with_reducible refine Below.setCell ?_ ?_ _) | (with_reducible refine Below.drew ?_) | (with_reducible refine Below.alloc ?_ ?_ _) | (with_reducible refine Below.trans ?_ (Below.mono hw1 ?_)) | (with_reducible exact hw1.size) | omega | (simp <;> omega) | (simp <;> (have s := hw1.size; omega)) | (have s0 := hw1.size; (try simp at s0); (try simp); omega))⟩
set_option maxHeartbeats 3200000 in
theorem start_ok (a b c : Int) (bl off cap pb po pc n N : Nat) (L : List Q) (ns l : List Int) (w : World) (h : Lies w bl off L) (hp : LiesI w pb po l) (hl : l.length = n * 3) (hr : numsR a b c L ns 0) (hv : vkR L.length n l 0 0) (hN : (N : Int) = a * b * c) (hn : L.length = n) : Calls Tryz.prog 29 #[.agg #[.int .i64 a, .int .i64 b, .int .i64 c, .slice (some ⟨bl, off, none⟩) L.length cap], .slice (some ⟨pb, po, none⟩) n pc] w fun e w' => RetS a b c n N w.heap.size L l e w' ∧ Below w.heap.size w w' := by
  have H := Lib.hid h
  have HP := Lib.hid hp
  obtain ⟨hfl, hq, hS⟩ := numsR_smR hr
  have h48 := fld_len hfl
  have hN0 : 0 < N := by obtain ⟨-, -, p3, -⟩ := mul_rng (fldR_ok hfl).1.a1 (fldR_ok hfl).1.a4 (fldR_ok hfl).1.b1 (fldR_ok hfl).1.b4 (fldR_ok hfl).1.c1 (fldR_ok hfl).1.c4; omega
  have hn0 : 0 < n := by have := (fldR_ok hfl).2.1; omega
  have c1 : ∀ W : World, Lies W bl off L → LiesI W pb po l → Calls Tryz.prog 58 #[.agg #[.int .i64 a, .int .i64 b, .int .i64 c, .slice (some ⟨bl, off, none⟩) L.length cap], .slice (some ⟨pb, po, none⟩) n pc] W fun e w' => e = .returned (.int .i64 0) ∧ Below W.heap.size W w' := fun W h h2 => validateK_any a b c 0 0 (some ⟨bl, off, none⟩) (some ⟨pb, po, none⟩) cap pc n L ns l W (.inr ⟨bl, off, rfl, h⟩) (.inr ⟨pb, po, rfl, h2⟩) hl hr hv (by omega)
  have c2 := fun (W : World) (h : Lies W bl off L) => resting_ok a b c bl off cap n N L W h hfl hS hn hN hq
  have c3 := fun (W : World) (h : LiesI W pb po l) => cloneK_any pb po pc n l W h hl hn0 (by omega)
  have HN := Lib.hid hn
  clear h hp hl hr hv hN hfl hq hS hn
  go_enter Tryz.func29, Tryz.ntmps29
  go_wp2_with (fail)
  refine (c1 _ (H.out.later (by repeat (first | (with_reducible exact Below.refl _ _) | (with_reducible refine Below.setCell ?_ ?_ _) | (with_reducible refine Below.drew ?_) | (with_reducible refine Below.alloc ?_ ?_ _) | omega | (simp <;> omega)))) (HP.out.later (by repeat (first | (with_reducible exact Below.refl _ _) | (with_reducible refine Below.setCell ?_ ?_ _) | (with_reducible refine Below.drew ?_) | (with_reducible refine Below.alloc ?_ ?_ _) | omega | (simp <;> omega))))).mono ?_
  clear c1
  rintro e w1 ⟨rfl, hw1⟩
  have hc1 := Tail.cells hw1
  have s1 := hw1.size
  simp at s1
  have z1 : w.heap.size < w1.heap.size := by omega
  have b1 : Below w.heap.size w w1 := by repeat (first | (with_reducible exact Below.refl _ _) | (with_reducible refine Below.setCell ?_ ?_ _) | (with_reducible refine Below.drew ?_) | (with_reducible refine Below.alloc ?_ ?_ _) | (with_reducible refine Below.trans ?_ (Below.mono hw1 ?_)) | (with_reducible exact hw1.size) | omega | (simp <;> omega) | (simp <;> (have s := hw1.size; omega)) | (have s0 := hw1.size; (try simp at s0); (try simp); omega))
  clear s1
  go_wp2_with (fail)
  refine (c2 _ (H.out.later b1)).mono ?_
  clear c2
  rintro e w2 ⟨⟨B, gl, gx, gp, kl, kx, rfl, hCO, hc4⟩, hw2⟩
  have b2 : Below w.heap.size w w2 := by repeat (first | (with_reducible exact Below.refl _ _) | (with_reducible refine Below.setCell ?_ ?_ _) | (with_reducible refine Below.drew ?_) | (with_reducible refine Below.alloc ?_ ?_ _) | (with_reducible refine Below.trans ?_ (Below.mono hw2 ?_)) | (with_reducible refine Below.trans ?_ (Below.mono b1 ?_)) | (with_reducible exact hw2.size) | (with_reducible exact b1.size) | omega | (simp <;> omega) | (simp <;> (have s := hw2.size; omega)) | (simp <;> (have s := b1.size; omega)) | (have s0 := hw2.size; (try simp at s0); have s1 := b1.size; (try simp at s1); (try simp); omega))
  have lB := hCO.lb
  have HCO := Lib.hid hCO
  have H4 := Lib.hid hc4
  clear hCO hc4 hc1
  go_wp2_with (fail)
  refine (c3 _ (HP.out.later b2)).mono ?_
  clear c3
  rintro e w3 ⟨⟨gm, km, rfl, hmi, hgm⟩, hw3⟩
  have K3 := HCO.out.later hw3
  have x4 : w3.cell? ⟨B, 4, none⟩ = some (.slice none 0 0) := (hw3.cell lB).trans H4.out
  have fB := K3.fb
  have lB3 := K3.lb
  have K4 := Lib.hid (co_mom K3 hN0 (.slice (some ⟨gm, 0, none⟩) n km))
  have l1 := HCO.out.li.lt
  have l2 := HCO.out.pr.lt
  have l3 := HCO.out.nx.lt hN0
  have lw : w.heap.size ≤ w1.heap.size := b1.size
  have lw2 : w1.heap.size ≤ w2.heap.size := hw2.size
  have mb : w1.heap.size ≤ B := HCO.out.mb
  have M4 := Lib.hid (⟨World.cell?_setCell_same _ _ _ x4, hmi.other (by omega), by omega, by omega, by omega, by omega, by omega⟩ : CM n (w3.setCell ⟨B, 4, none⟩ (.slice (some ⟨gm, 0, none⟩) n km)) w.heap.size B gl gx gp gm km l)
  have K5 : Hid (CO a b c n N (w3.setCell ⟨B, 4, none⟩ (.slice (some ⟨gm, 0, none⟩) n km)) w.heap.size B gl gx gp kl kx L) := by
    have k := K4.out
    have a1 := k.ml
    have a2 := k.mx
    have a3 := k.mp
    exact Lib.hid ⟨k.z0, k.z1, k.z2, k.cl, k.cx, k.cp, k.fb, k.li, k.nx, k.pr, by omega, by omega, by omega, by omega, k.d1, k.d2, k.d3, k.d4, k.d5, k.lb⟩
  have b3 : Below w.heap.size w w3 := by repeat (first | (with_reducible exact Below.refl _ _) | (with_reducible refine Below.setCell ?_ ?_ _) | (with_reducible refine Below.drew ?_) | (with_reducible refine Below.alloc ?_ ?_ _) | (with_reducible refine Below.trans ?_ (Below.mono hw3 ?_)) | (with_reducible refine Below.trans ?_ (Below.mono b2 ?_)) | (with_reducible exact hw3.size) | (with_reducible exact b2.size) | omega | (simp <;> omega) | (simp <;> (have s := hw3.size; omega)) | (simp <;> (have s := b2.size; omega)) | (have s0 := hw3.size; (try simp at s0); have s1 := b2.size; (try simp at s1); (try simp); omega))
  have b4 : Below w.heap.size w (w3.setCell ⟨B, 4, none⟩ (.slice (some ⟨gm, 0, none⟩) n km)) := b3.setCell (by show w.heap.size ≤ B; omega) _
  have HR := Lib.hid (show RetS a b c n N w.heap.size L l (.returned (.tuple #[.pointer (some ⟨B, 0, none⟩), .int .i64 0])) (w3.setCell ⟨B, 4, none⟩ (.slice (some ⟨gm, 0, none⟩) n km)) from ⟨B, gl, gx, gp, gm, kl, kx, km, rfl, K5.out, M4.out⟩)
  have HB4 := Lib.hid b4
  clear K3 K4 K5 M4 l1 l2 l3 b4 b3 hmi hw3
  go_wp2
  go_ret2
  exact ⟨HR.out, HB4.out⟩
end Go.Proofs.YtilbhcjnkmeecaaGreat

/- A trajectory's end, as the program makes it.
Conditions: those written at each theorem. -/
namespace Go.Proofs.YtilbhcjnkmeecaaGreat
set_option linter.unusedVariables false
set_option linter.unusedSimpArgs false
set_option maxRecDepth 1000000
open Go.RowKit
open Um Tm Cm Km

def RetFB (a b c : Int) (m n : Nat) (M : List Q) (e : Ending) (w' : World) : Prop := ∃ g k : Nat, e = .returned (.tuple #[.agg #[.int .i64 a, .int .i64 b, .int .i64 c, .slice (some ⟨g, 0, none⟩) n k], .int .i64 0]) ∧ LBox w' g M ∧ m ≤ g
set_option maxHeartbeats 3200000 in
theorem fromNumbersB_ok (a b c : Int) (bl off cap : Nat) (l : List Int) (n : Nat) (w : World) (hz : Sz a b c) (hn : (n : Int) = 3 * (a * b * c)) (hn48 : n ≤ 48) (hl : LiesI w bl off l) (hln : l.length = n) (hgood : ∀ (i : Nat) (x : Int), l[i]? = some x → Gd x) : Calls Tryz.prog 66 #[.agg #[.int .i64 a, .int .i64 b, .int .i64 c], .slice (some ⟨bl, off, none⟩) n cap] w fun e w' => RetFB a b c w.heap.size n (l.map small) e w' ∧ Below w.heap.size w w' := by
  have c1 := fun W : World => sizes_any a b c 0 W (.inl ⟨hz, rfl⟩)
  have c2 := fun W : World => blank_any a b c n W hz hn
  have hT : (l.map small).length = n := by rw [List.length_map, hln]
  have fz := fillTo_zero (l.map small)
  have fe := fillTo_end (l.map small)
  have fat := fun k h => fillTo_at (l.map small) k h
  have fst : ∀ (k : Nat) (x : Int), l[k]? = some x → (fillTo (l.map small) k).set k (small x) = fillTo (l.map small) (k + 1) := fun k x hx => by
    have hk := (List.getElem?_eq_some_iff.1 hx).1
    have := fillTo_step (l.map small) k (by rw [List.length_map]; exact hk)
    rw [List.getElem_map, (List.getElem?_eq_some_iff.1 hx).2] at this
    exact this
  have flen := fun k h => fillTo_len (l.map small) k h
  rw [hT] at fz fe fat flen
  have FZ := Lib.hid fz
  have FE := Lib.hid fe
  have FA := Lib.hid fat
  have FS := Lib.hid fst
  have FL := Lib.hid flen
  have HI := Lib.hid hl
  have HLN := Lib.hid hln
  have HGD := Lib.hid hgood
  have HTN := Lib.hid hT
  have hne' : ((n : Int) != (n : Int)) = false := by simp
  clear hz hn fz fe fat fst flen hT hl hln hgood
  have hTT : ∃ T, T = l.map small := ⟨_, rfl⟩
  obtain ⟨T, hT⟩ := hTT
  rw [← hT] at FZ FE FA FS FL HTN
  have HT := Lib.hid hT
  clear hT
  go_enter Tryz.func66, Tryz.ntmps66
  go_wp2_with (first | ((with_reducible refine (c1 _).mono ?_); clear c1; rintro e w1 ⟨rfl, hw1⟩; have hc1 := Tail.cells hw1; have zw10 := Nat.lt_of_lt_of_le (n := w.heap.size) (by simp <;> omega) hw1.size; have zw11 := Nat.lt_of_lt_of_le (n := w.heap.size + 1) (by simp <;> omega) hw1.size) | ((with_reducible refine (c2 _).mono ?_); clear c2; rintro e w2 ⟨g, rfl, hL, hg, hw2⟩; have HL := Lib.hid hL; clear hL))
  have r0 := ((⟨by simp [go_sem], by simp [go_sem], by simp [go_sem], by simp [go_sem], fun j => by simp [go_sem], by simp⟩ : FW ((w.alloc (.cells #[.int .i64 a, .int .i64 b, .int .i64 c] 22)).alloc (.cells #[.int .i64 0, .int .i64 0, .int .i64 0, .slice none 0 0] 25)) (w.heap.size + 1) 0 0 0 (.slice none 0 0)).later hw1).later hw2
  have r1 := r0.later ((Below.refl _ _).alloc (Nat.le_refl _) (.cells #[.int .i64 a, .int .i64 b, .int .i64 c, .slice (some ⟨g, 0, none⟩) n n] 25))
  have f1 : FW (w2.alloc (.cells #[.int .i64 a, .int .i64 b, .int .i64 c, .slice (some ⟨g, 0, none⟩) n n] 25)) w2.heap.size a b c (.slice (some ⟨g, 0, none⟩) n n) := ⟨by simp [go_sem], by simp [go_sem], by simp [go_sem], by simp [go_sem], fun j => by simp [go_sem], by simp⟩
  have l1 := HL.out.later ((Below.refl _ _).alloc (Nat.le_refl _) (.cells #[.int .i64 a, .int .i64 b, .int .i64 c, .slice (some ⟨g, 0, none⟩) n n] 25))
  rw [← FZ.out] at l1
  have hB : Below w.heap.size w (w2.alloc (.cells #[.int .i64 a, .int .i64 b, .int .i64 c, .slice (some ⟨g, 0, none⟩) n n] 25)) := by repeat (first | (with_reducible exact Below.refl _ _) | (with_reducible refine Below.setCell ?_ ?_ _) | (with_reducible refine Below.drew ?_) | (with_reducible refine Below.alloc ?_ ?_ _) | (with_reducible refine Below.trans ?_ (Below.mono hw2 ?_)) | (with_reducible refine Below.trans ?_ (Below.mono hw1 ?_)) | (with_reducible exact hw2.size) | (with_reducible exact hw1.size) | omega | (simp <;> omega) | (simp <;> (have s := hw2.size; omega)) | (simp <;> (have s := hw1.size; omega)) | (have s0 := hw2.size; (try simp at s0); have s1 := hw1.size; (try simp at s1); (try simp); omega))
  have hgp : g < w2.heap.size := HL.out.lt
  have hg2 : w.heap.size + 2 ≤ g := by have := hw1.size; simp at this; omega
  clear r0 HL hw1 hw2 hc1 zw10 zw11 hg
  generalize w2.heap.size = p at *
  go_loopw [8, 9, 10, 11, 29] (fun _ _ _ _ q wr => ∃ k : Nat, k ≤ n ∧ q = .int .i64 k ∧ Hid (∀ (i : Nat) (y : Int), i < k → l[i]? = some y → Gd y) ∧ FW wr p a b c (.slice (some ⟨g, 0, none⟩) n n) ∧ FW wr (w.heap.size + 1) 0 0 0 (.slice none 0 0) ∧ LBox wr g (fillTo T k) ∧ Below w.heap.size w wr) (fun _ _ _ _ q _ => n - (intOf q).toNat)
  case atStart => exact ⟨0, by omega, rfl, Lib.hid (fun i y h => by omega), f1, r1, l1, hB⟩
  case round =>
    obtain ⟨k, hk, rfl, hgd, ff, rr, lb, hb⟩ := hrel
    clear f1 r1 l1 hB
    have FF := Lib.hid ff
    have RR := Lib.hid rr
    have LB := Lib.hid lb
    have hbs := hb.size
    by_cases hlt : k < n
    · have i1 : (k : Int) < (n : Int) := by omega
      have hx : l[k]? = some (l[k]'(by rw [HLN.out]; exact hlt)) := List.getElem?_eq_getElem _
      have hcell := HI.out.later hb k _ hx
      have hbl : bl < wr.heap.size := World.block_lt_of_cell? wr _ hcell
      generalize l[k]'(by rw [HLN.out]; exact hlt) = x at *
      have HX := Lib.hid hx
      clear hx lb
      by_cases hg0 : Gd x
      · have c3 := fun W : World => small_any x W hg0.1 hg0.2
        have hnext := Lib.hid (good_next hgd.out HX.out hg0)
        have hst := FS.out k x HX.out
        have HST := Lib.hid hst
        clear hst hg0 hgd rr ff
        generalize small x = y at *
        go_wp2_with ((with_reducible refine (c3 _).mono ?_); clear c3; rintro e w3 ⟨rfl, hw3⟩; have F3 := FF.out.later hw3; have L3 := LB.out.later hw3; obtain ⟨f0, f1, f2, f3, fr, fl⟩ := F3; obtain ⟨l0, l1, l2, l3, l4⟩ := L3.at (FA.out k hlt); have lf := L3.free; have lbl := L3.lt; clear L3)
        have G1 := grown_setCells g (uc y) (k * 5) w3
        have AL : Below (w3.setCells g (k * 5) (uc y)).heap.size (w3.setCells g (k * 5) (uc y)) ((w3.setCells g (k * 5) (uc y)).alloc (.cells (uc y).toArray 40)) := (Below.refl _ _).alloc (Nat.le_refl _) _
        have L1 := ((LB.out.later hw3).put k (by rw [FL.out k hk]; exact hlt) y).later AL
        have F1 := ((FF.out.later hw3).grown G1 (by simp; omega)).later AL
        have R1 := ((RR.out.later hw3).grown G1 (by simp; omega)).later AL
        have hb3 : Below w.heap.size w w3 := by repeat (first | (with_reducible exact Below.refl _ _) | (with_reducible refine Below.setCell ?_ ?_ _) | (with_reducible refine Below.drew ?_) | (with_reducible refine Below.alloc ?_ ?_ _) | (with_reducible refine Below.trans ?_ (Below.mono hw3 ?_)) | (with_reducible refine Below.trans ?_ (Below.mono hb ?_)) | (with_reducible exact hw3.size) | (with_reducible exact hb.size) | omega | (simp <;> omega) | (simp <;> (have s := hw3.size; omega)) | (simp <;> (have s := hb.size; omega)) | (have s0 := hw3.size; (try simp at s0); have s1 := hb.size; (try simp at s1); (try simp); omega))
        have hb4 : Below w.heap.size w (w3.setCells g (k * 5) (uc y)) := hb3.grown G1 hb3.size (fun j hj => by simp at hj; omega)
        have hb5 := hb4.alloc hb4.size (.cells (uc y).toArray 40)
        rw [HST.out] at L1
        clear f0 f1 f2 f3 fr fl l0 l1 l2 l3 l4 lf lbl FF RR LB
        exact ⟨⟨k + 1, by omega, by go_num, hnext, F1, R1, L1, hb5⟩, by simp [intOf]; omega⟩
      · have c3 := fun W : World => small_bad x W (by unfold Gd at hg0; omega)
        have HG := Lib.hid hg0
        clear hg0 hgd rr ff
        go_wp2_with ((with_reducible refine (c3 _).mono ?_); clear c3; rintro e w3 ⟨rfl, hw3⟩; obtain ⟨d0, d1, d2, d3, df, dl⟩ := RR.out.later hw3)
        refine bodyPost_ret (v := .tuple #[.agg #[.int .i64 0, .int .i64 0, .int .i64 0, .slice none 0 0], .int .i64 1]) ?_ rfl ⟨absurd (HGD.out k x HX.out) HG.out, ?_⟩
        · simp [results, Tryz.results66, go_sem, d0, d1, d2, d3, dl]
        · repeat (first | (with_reducible exact Below.refl _ _) | (with_reducible refine Below.setCell ?_ ?_ _) | (with_reducible refine Below.drew ?_) | (with_reducible refine Below.alloc ?_ ?_ _) | (with_reducible refine Below.trans ?_ (Below.mono hw3 ?_)) | (with_reducible refine Below.trans ?_ (Below.mono hb ?_)) | (with_reducible exact hw3.size) | (with_reducible exact hb.size) | omega | (simp <;> omega) | (simp <;> (have s := hw3.size; omega)) | (simp <;> (have s := hb.size; omega)) | (have s0 := hw3.size; (try simp at s0); have s1 := hb.size; (try simp at s1); (try simp); omega))
    · obtain rfl : k = n := by omega
      obtain ⟨f0, f1, f2, f3, fr, fl⟩ := ff
      obtain ⟨d0, d1, d2, d3, df, dl⟩ := rr
      clear lb
      go_wp2
      have G1 := grown_setCells (w.heap.size + 1) [.int .i64 a, .int .i64 b, .int .i64 c, .slice (some ⟨g, 0, none⟩) k k] 0 wr
      have L1 := LB.out.grown G1 (by simp; omega)
      rw [FE.out, HT.out] at L1
      refine bodyPost_ret (v := .tuple #[.agg #[.int .i64 a, .int .i64 b, .int .i64 c, .slice (some ⟨g, 0, none⟩) k k], .int .i64 0]) ?_ rfl ⟨⟨g, k, rfl, L1, by omega⟩, ?_⟩
      · simp [results, Tryz.results66, go_sem, d0, d1, d2, d3, dl]
      · repeat (first | (with_reducible exact Below.refl _ _) | (with_reducible refine Below.setCell ?_ ?_ _) | (with_reducible refine Below.drew ?_) | (with_reducible refine Below.alloc ?_ ?_ _) | (with_reducible refine Below.trans ?_ (Below.mono hb ?_)) | (with_reducible exact hb.size) | omega | (simp <;> omega) | (simp <;> (have s := hb.size; omega)) | (have s0 := hb.size; (try simp at s0); (try simp); omega))
def RetE (a b c : Int) (n m gm km : Nat) (L : List Q) (e : Ending) (w' : World) : Prop := ∃ g k : Nat, e = .returned (.tuple #[.agg #[.int .i64 a, .int .i64 b, .int .i64 c, .slice (some ⟨g, 0, none⟩) n k], .slice (some ⟨gm, 0, none⟩) n km, .int .i64 0]) ∧ LBox w' g L ∧ m ≤ g
set_option maxHeartbeats 6400000 in
theorem end_ok (a b c : Int) (n N : Nat) (w : World) (m B gl gx gp gm kl kx km : Nat) (L : List Q) (l : List Int) (hC : CO a b c n N w m B gl gx gp kl kx L) (hM : CM n w m B gl gx gp gm km l) (hz : Sz a b c) (hn : (n : Int) = 3 * (a * b * c)) (hn48 : n ≤ 48) (hS : ∀ x ∈ L, IsS x) (hL : L.length = n) :
    Calls Tryz.prog 33 #[.pointer (some ⟨B, 0, none⟩)] w fun e w' => RetE a b c n w.heap.size gm km L e w' ∧ Below w.heap.size w w' := by
  have c1 : ∀ W : World, LiesI W gl 0 (L.map nm) → Calls Tryz.prog 66 #[.agg #[.int .i64 a, .int .i64 b, .int .i64 c], .slice (some ⟨gl, 0, none⟩) n kl] W fun e w' => RetFB a b c W.heap.size n L e w' ∧ Below W.heap.size W w' := fun W hl => by
    have := fromNumbersB_ok a b c gl 0 kl (L.map nm) n W hz hn hn48 hl (by rw [List.length_map, hL]) (fun i x hx => by
      rw [List.getElem?_map] at hx
      cases hi : L[i]? with
      | none => rw [hi] at hx; simp at hx
      | some y =>
        rw [hi] at hx
        simp at hx
        subst hx
        have := (hS y (List.mem_of_getElem? hi)).nm
        exact ⟨this.1, this.2.1⟩)
    rwa [small_nm_map hS] at this
  obtain ⟨z0, z1, z2, cl⟩ := And.intro hC.z0 (And.intro hC.z1 (And.intro hC.z2 hC.cl))
  have c4 := hM.cm
  have lb := hC.lb
  have HL := Lib.hid hC.li.h
  clear hC hM hS hL hz hn
  go_enter Tryz.func33, Tryz.ntmps33
  go_wp2
  obtain ⟨X0, hX0⟩ : ∃ X, w.alloc (.cells #[.int .i64 0, .int .i64 0, .int .i64 0, .slice none 0 0] 25) = X := ⟨_, rfl⟩
  have F0 : FW X0 w.heap.size 0 0 0 (.slice none 0 0) := by rw [← hX0]; exact ⟨by simp [go_sem], by simp [go_sem], by simp [go_sem], by simp [go_sem], fun j => by simp [go_sem], by simp⟩
  have b0 : Below w.heap.size w X0 := by rw [← hX0]; repeat (first | (with_reducible exact Below.refl _ _) | (with_reducible refine Below.setCell ?_ ?_ _) | (with_reducible refine Below.drew ?_) | (with_reducible refine Below.alloc ?_ ?_ _) | omega | (simp <;> omega))
  have y0 := held_below b0 z0
  have y1 := held_below b0 z1
  have y2 := held_below b0 z2
  have yl := held_below b0 cl
  have y4 := held_below b0 c4
  have hb0 : w.heap.size + 1 = X0.heap.size := by rw [← hX0]; simp
  rw [hX0]
  have HF0 := Lib.hid F0
  have HX0 := Lib.hid hb0
  clear hX0 F0 z0 z1 z2 cl c4 hb0
  go_region_held3 (fun w' => w'.cell? ⟨B, 0, none⟩ = some (.int .i64 a) ∧ w'.cell? ⟨B, 1, none⟩ = some (.int .i64 b) ∧ w'.cell? ⟨B, 2, none⟩ = some (.int .i64 c) ∧ w'.cell? ⟨B, 3, none⟩ = some (.slice (some ⟨gl, 0, none⟩) n kl))
    (first
      | go_keep
      | (exact ⟨held_below (W := X0) (by repeat (first | (with_reducible exact Below.refl _ _) | (with_reducible refine Below.setCell ?_ ?_ _) | (with_reducible refine Below.drew ?_) | (with_reducible refine Below.alloc ?_ ?_ _) | (with_reducible refine Below.trans ?_ (Below.mono hw1 ?_)) | (with_reducible exact hw1.size) | omega | (simp <;> omega) | (simp <;> (have s := hw1.size; omega)) | (have s0 := hw1.size; (try simp at s0); (try simp); omega))) y0, held_below (W := X0) (by repeat (first | (with_reducible exact Below.refl _ _) | (with_reducible refine Below.setCell ?_ ?_ _) | (with_reducible refine Below.drew ?_) | (with_reducible refine Below.alloc ?_ ?_ _) | (with_reducible refine Below.trans ?_ (Below.mono hw1 ?_)) | (with_reducible exact hw1.size) | omega | (simp <;> omega) | (simp <;> (have s := hw1.size; omega)) | (have s0 := hw1.size; (try simp at s0); (try simp); omega))) y1, held_below (W := X0) (by repeat (first | (with_reducible exact Below.refl _ _) | (with_reducible refine Below.setCell ?_ ?_ _) | (with_reducible refine Below.drew ?_) | (with_reducible refine Below.alloc ?_ ?_ _) | (with_reducible refine Below.trans ?_ (Below.mono hw1 ?_)) | (with_reducible exact hw1.size) | omega | (simp <;> omega) | (simp <;> (have s := hw1.size; omega)) | (have s0 := hw1.size; (try simp at s0); (try simp); omega))) y2, held_below (W := X0) (by repeat (first | (with_reducible exact Below.refl _ _) | (with_reducible refine Below.setCell ?_ ?_ _) | (with_reducible refine Below.drew ?_) | (with_reducible refine Below.alloc ?_ ?_ _) | (with_reducible refine Below.trans ?_ (Below.mono hw1 ?_)) | (with_reducible exact hw1.size) | omega | (simp <;> omega) | (simp <;> (have s := hw1.size; omega)) | (have s0 := hw1.size; (try simp at s0); (try simp); omega))) yl⟩)
      | (exact ⟨held_below (W := X0) (by repeat (first | (with_reducible exact Below.refl _ _) | (with_reducible refine Below.setCell ?_ ?_ _) | (with_reducible refine Below.drew ?_) | (with_reducible refine Below.alloc ?_ ?_ _) | omega | (simp <;> omega))) y0, held_below (W := X0) (by repeat (first | (with_reducible exact Below.refl _ _) | (with_reducible refine Below.setCell ?_ ?_ _) | (with_reducible refine Below.drew ?_) | (with_reducible refine Below.alloc ?_ ?_ _) | omega | (simp <;> omega))) y1, held_below (W := X0) (by repeat (first | (with_reducible exact Below.refl _ _) | (with_reducible refine Below.setCell ?_ ?_ _) | (with_reducible refine Below.drew ?_) | (with_reducible refine Below.alloc ?_ ?_ _) | omega | (simp <;> omega))) y2, held_below (W := X0) (by repeat (first | (with_reducible exact Below.refl _ _) | (with_reducible refine Below.setCell ?_ ?_ _) | (with_reducible refine Below.drew ?_) | (with_reducible refine Below.alloc ?_ ?_ _) | omega | (simp <;> omega))) yl⟩))
    (((with_reducible refine (c1 _ (HL.out.later (by repeat (first | (with_reducible exact Below.refl _ _) | (with_reducible refine Below.setCell ?_ ?_ _) | (with_reducible refine Below.drew ?_) | (with_reducible refine Below.alloc ?_ ?_ _) | (with_reducible refine Below.trans ?_ (Below.mono b0 ?_)) | (with_reducible exact b0.size) | omega | (simp <;> omega) | (simp <;> (have s := b0.size; omega)) | (have s0 := b0.size; (try simp at s0); (try simp); omega))))).mono ?_); rintro e w1 ⟨⟨g, k, rfl, hbx, hg⟩, hw1⟩; have HBX := Lib.hid hbx; have hc1 := Tail.cells hw1; clear hbx))
  · have FW1 : FW (w1.alloc (.cells #[.int .i64 a, .int .i64 b, .int .i64 c, .slice (some ⟨g, 0, none⟩) n k] 25)) w1.heap.size a b c (.slice (some ⟨g, 0, none⟩) n k) := ⟨by simp [go_sem], by simp [go_sem], by simp [go_sem], by simp [go_sem], fun j => by simp [go_sem], by simp⟩
    have bx1 : Below X0.heap.size X0 w1 := ⟨hw1.os, hw1.tape, hw1.output, hw1.size, hw1.block⟩
    have FR1 : FW (w1.alloc (.cells #[.int .i64 a, .int .i64 b, .int .i64 c, .slice (some ⟨g, 0, none⟩) n k] 25)) w.heap.size 0 0 0 (.slice none 0 0) := (HF0.out.later bx1).later (by repeat (first | (with_reducible exact Below.refl _ _) | (with_reducible refine Below.setCell ?_ ?_ _) | (with_reducible refine Below.drew ?_) | (with_reducible refine Below.alloc ?_ ?_ _) | omega | (simp <;> omega)))
    have LB1 : LBox (w1.alloc (.cells #[.int .i64 a, .int .i64 b, .int .i64 c, .slice (some ⟨g, 0, none⟩) n k] 25)) g L := HBX.out.later (by repeat (first | (with_reducible exact Below.refl _ _) | (with_reducible refine Below.setCell ?_ ?_ _) | (with_reducible refine Below.drew ?_) | (with_reducible refine Below.alloc ?_ ?_ _) | omega | (simp <;> omega)))
    have q4 : (w1.alloc (.cells #[.int .i64 a, .int .i64 b, .int .i64 c, .slice (some ⟨g, 0, none⟩) n k] 25)).cell? ⟨B, 4, none⟩ = some (.slice (some ⟨gm, 0, none⟩) n km) := held_below (W := X0) (by repeat (first | (with_reducible exact Below.refl _ _) | (with_reducible refine Below.setCell ?_ ?_ _) | (with_reducible refine Below.drew ?_) | (with_reducible refine Below.alloc ?_ ?_ _) | (with_reducible refine Below.trans ?_ (Below.mono bx1 ?_)) | (with_reducible exact bx1.size) | omega | (simp <;> omega) | (simp <;> (have s := bx1.size; omega)) | (have s0 := bx1.size; (try simp at s0); (try simp); omega))) y4
    have bW : Below w.heap.size w (w1.alloc (.cells #[.int .i64 a, .int .i64 b, .int .i64 c, .slice (some ⟨g, 0, none⟩) n k] 25)) := by repeat (first | (with_reducible exact Below.refl _ _) | (with_reducible refine Below.setCell ?_ ?_ _) | (with_reducible refine Below.drew ?_) | (with_reducible refine Below.alloc ?_ ?_ _) | (with_reducible refine Below.trans ?_ (Below.mono bx1 ?_)) | (with_reducible refine Below.trans ?_ (Below.mono b0 ?_)) | (with_reducible exact bx1.size) | (with_reducible exact b0.size) | omega | (simp <;> omega) | (simp <;> (have s := bx1.size; omega)) | (simp <;> (have s := b0.size; omega)) | (have s0 := bx1.size; (try simp at s0); have s1 := b0.size; (try simp at s1); (try simp); omega))
    have ls1 : X0.heap.size ≤ w1.heap.size := bx1.size
    have hnG : w1.heap.size ≠ w.heap.size := by have := HX0.out; omega
    have HGw := Lib.hid (show w.heap.size + 1 ≤ g from Nat.le_trans (by have := HX0.out; show w.heap.size + 1 ≤ X0.heap.size; omega) hg)
    generalize w1.alloc (.cells #[.int .i64 a, .int .i64 b, .int .i64 c, .slice (some ⟨g, 0, none⟩) n k] 25) = W at *
    generalize w1.heap.size = G at *
    have FG := Lib.hid FW1
    have FR := Lib.hid FR1
    have LB := Lib.hid LB1
    obtain ⟨g0, g1, g2, g3, gf, gl'⟩ := FW1
    obtain ⟨r0, r1, r2, r3, rf, rl⟩ := FR1
    have hBw : B ≠ w.heap.size := by omega
    have HNE := Lib.hid (show (some g : Option Nat) ≠ some w.heap.size from fun h => by have h1 := HGw.out; have h2 := Option.some.inj h; omega)
    have GS := grown_setCells w.heap.size [.int .i64 a, .int .i64 b, .int .i64 c, .slice (some ⟨g, 0, none⟩) n k] 0 W
    clear hw1 hc1 HBX LB1 c1 HL y0 y1 y2 yl y4 HF0 GS
    go_wp2
    go_region
    all_goals
      go_wp2
      refine bodyPost_ret (v := .tuple #[.agg #[.int .i64 a, .int .i64 b, .int .i64 c, .slice (some ⟨g, 0, none⟩) n k], .slice (some ⟨gm, 0, none⟩) n km, .int .i64 0]) (by simp [results, Tryz.results33, go_sem, r0, r1, r2, r3, rf, rl]) rfl ⟨⟨g, k, rfl, ?_, Nat.le_of_succ_le HGw.out⟩, ?_⟩
      · exact (LB.out.grown (grown_setCells w.heap.size [.int .i64 a, .int .i64 b, .int .i64 c, .slice (some ⟨g, 0, none⟩) n k] 0 W) HNE.out).later (Below.drew (Below.refl _ _))
      · repeat (first | (with_reducible exact Below.refl _ _) | (with_reducible refine Below.setCell ?_ ?_ _) | (with_reducible refine Below.drew ?_) | (with_reducible refine Below.alloc ?_ ?_ _) | (with_reducible refine Below.trans ?_ (Below.mono bW ?_)) | (with_reducible exact bW.size) | omega | (simp <;> omega) | (simp <;> (have s := bW.size; omega)) | (have s0 := bW.size; (try simp at s0); (try simp); omega))
  · have u0 : w1.cell? ⟨X0.heap.size, 0, none⟩ = some (.int .i64 0) := (hw1.cell (p := ⟨X0.heap.size, 0, none⟩) (by simp)).trans (by simp [go_sem])
    have u1 : w1.cell? ⟨X0.heap.size, 1, none⟩ = some (.int .i64 0) := (hw1.cell (p := ⟨X0.heap.size, 1, none⟩) (by simp)).trans (by simp [go_sem])
    have u2 : w1.cell? ⟨X0.heap.size, 2, none⟩ = some (.int .i64 0) := (hw1.cell (p := ⟨X0.heap.size, 2, none⟩) (by simp)).trans (by simp [go_sem])
    have u3 : w1.cell? ⟨X0.heap.size, 3, none⟩ = some (.slice none 0 0) := (hw1.cell (p := ⟨X0.heap.size, 3, none⟩) (by simp)).trans (by simp [go_sem])
    have uf : ∀ j, w1.frozen? ⟨X0.heap.size, j, none⟩ = false := fun j => (hw1.frozen (p := ⟨X0.heap.size, j, none⟩) (by simp)).trans (by simp [go_sem])
    have ul : X0.heap.size < w1.heap.size := World.block_lt_of_cell? w1 _ u0
    have FW1 : FW ((((w1.setCell ⟨X0.heap.size, 0, none⟩ (.int .i64 a)).setCell ⟨X0.heap.size, 1, none⟩ (.int .i64 b)).setCell ⟨X0.heap.size, 2, none⟩ (.int .i64 c)).setCell ⟨X0.heap.size, 3, none⟩ (.slice (some ⟨g, 0, none⟩) n k)) X0.heap.size a b c (.slice (some ⟨g, 0, none⟩) n k) := ⟨by simp [go_sem, u0, u1, u2, u3], by simp [go_sem, u0, u1, u2, u3], by simp [go_sem, u0, u1, u2, u3], by simp [go_sem, u0, u1, u2, u3], fun j => by simp [go_sem, uf], by simpa [World.setCell] using ul⟩
    have bx1 : Below X0.heap.size X0 w1 := by repeat (first | (with_reducible exact Below.refl _ _) | (with_reducible refine Below.setCell ?_ ?_ _) | (with_reducible refine Below.drew ?_) | (with_reducible refine Below.alloc ?_ ?_ _) | (with_reducible refine Below.trans ?_ (Below.mono hw1 ?_)) | (with_reducible exact hw1.size) | omega | (simp <;> omega) | (simp <;> (have s := hw1.size; omega)) | (have s0 := hw1.size; (try simp at s0); (try simp); omega))
    have Gs := grown_setCells X0.heap.size [.int .i64 a, .int .i64 b, .int .i64 c, .slice (some ⟨g, 0, none⟩) n k] 0 w1
    have hx0 := HX0.out
    have FR1 : FW ((((w1.setCell ⟨X0.heap.size, 0, none⟩ (.int .i64 a)).setCell ⟨X0.heap.size, 1, none⟩ (.int .i64 b)).setCell ⟨X0.heap.size, 2, none⟩ (.int .i64 c)).setCell ⟨X0.heap.size, 3, none⟩ (.slice (some ⟨g, 0, none⟩) n k)) w.heap.size 0 0 0 (.slice none 0 0) := (HF0.out.later bx1).grown Gs (by simp; omega)
    have hg' : X0.heap.size + 1 ≤ g := by simpa using hg
    have LB1 : LBox ((((w1.setCell ⟨X0.heap.size, 0, none⟩ (.int .i64 a)).setCell ⟨X0.heap.size, 1, none⟩ (.int .i64 b)).setCell ⟨X0.heap.size, 2, none⟩ (.int .i64 c)).setCell ⟨X0.heap.size, 3, none⟩ (.slice (some ⟨g, 0, none⟩) n k)) g L := HBX.out.grown Gs (by simp; omega)
    have bW : Below w.heap.size w ((((w1.setCell ⟨X0.heap.size, 0, none⟩ (.int .i64 a)).setCell ⟨X0.heap.size, 1, none⟩ (.int .i64 b)).setCell ⟨X0.heap.size, 2, none⟩ (.int .i64 c)).setCell ⟨X0.heap.size, 3, none⟩ (.slice (some ⟨g, 0, none⟩) n k)) := by repeat (first | (with_reducible exact Below.refl _ _) | (with_reducible refine Below.setCell ?_ ?_ _) | (with_reducible refine Below.drew ?_) | (with_reducible refine Below.alloc ?_ ?_ _) | (with_reducible refine Below.trans ?_ (Below.mono bx1 ?_)) | (with_reducible refine Below.trans ?_ (Below.mono b0 ?_)) | (with_reducible exact bx1.size) | (with_reducible exact b0.size) | omega | (simp <;> omega) | (simp <;> (have s := bx1.size; omega)) | (simp <;> (have s := b0.size; omega)) | (have s0 := bx1.size; (try simp at s0); have s1 := b0.size; (try simp at s1); (try simp); omega))
    have bX : Below X0.heap.size X0 ((((w1.setCell ⟨X0.heap.size, 0, none⟩ (.int .i64 a)).setCell ⟨X0.heap.size, 1, none⟩ (.int .i64 b)).setCell ⟨X0.heap.size, 2, none⟩ (.int .i64 c)).setCell ⟨X0.heap.size, 3, none⟩ (.slice (some ⟨g, 0, none⟩) n k)) := by repeat (first | (with_reducible exact Below.refl _ _) | (with_reducible refine Below.setCell ?_ ?_ _) | (with_reducible refine Below.drew ?_) | (with_reducible refine Below.alloc ?_ ?_ _) | (with_reducible refine Below.trans ?_ (Below.mono bx1 ?_)) | (with_reducible exact bx1.size) | omega | (simp <;> omega) | (simp <;> (have s := bx1.size; omega)) | (have s0 := bx1.size; (try simp at s0); (try simp); omega))
    have q4 : ((((w1.setCell ⟨X0.heap.size, 0, none⟩ (.int .i64 a)).setCell ⟨X0.heap.size, 1, none⟩ (.int .i64 b)).setCell ⟨X0.heap.size, 2, none⟩ (.int .i64 c)).setCell ⟨X0.heap.size, 3, none⟩ (.slice (some ⟨g, 0, none⟩) n k)).cell? ⟨B, 4, none⟩ = some (.slice (some ⟨gm, 0, none⟩) n km) := held_below (W := X0) bX y4
    have hnG : X0.heap.size ≠ w.heap.size := by omega
    have HGw := Lib.hid (show w.heap.size + 1 ≤ g by omega)
    clear u0 u1 u2 u3 uf ul Gs bX hx0
    generalize (((w1.setCell ⟨X0.heap.size, 0, none⟩ (.int .i64 a)).setCell ⟨X0.heap.size, 1, none⟩ (.int .i64 b)).setCell ⟨X0.heap.size, 2, none⟩ (.int .i64 c)).setCell ⟨X0.heap.size, 3, none⟩ (.slice (some ⟨g, 0, none⟩) n k) = W at *
    generalize X0.heap.size = G at *
    have FG := Lib.hid FW1
    have FR := Lib.hid FR1
    have LB := Lib.hid LB1
    obtain ⟨g0, g1, g2, g3, gf, gl'⟩ := FW1
    obtain ⟨r0, r1, r2, r3, rf, rl⟩ := FR1
    have hBw : B ≠ w.heap.size := by omega
    have HNE := Lib.hid (show (some g : Option Nat) ≠ some w.heap.size from fun h => by have h1 := HGw.out; have h2 := Option.some.inj h; omega)
    have GS := grown_setCells w.heap.size [.int .i64 a, .int .i64 b, .int .i64 c, .slice (some ⟨g, 0, none⟩) n k] 0 W
    clear hw1 hc1 HBX LB1 c1 HL y0 y1 y2 yl y4 HF0 GS
    go_wp2
    go_region
    all_goals
      go_wp2
      refine bodyPost_ret (v := .tuple #[.agg #[.int .i64 a, .int .i64 b, .int .i64 c, .slice (some ⟨g, 0, none⟩) n k], .slice (some ⟨gm, 0, none⟩) n km, .int .i64 0]) (by simp [results, Tryz.results33, go_sem, r0, r1, r2, r3, rf, rl]) rfl ⟨⟨g, k, rfl, ?_, Nat.le_of_succ_le HGw.out⟩, ?_⟩
      · exact (LB.out.grown (grown_setCells w.heap.size [.int .i64 a, .int .i64 b, .int .i64 c, .slice (some ⟨g, 0, none⟩) n k] 0 W) HNE.out).later (Below.drew (Below.refl _ _))
      · repeat (first | (with_reducible exact Below.refl _ _) | (with_reducible refine Below.setCell ?_ ?_ _) | (with_reducible refine Below.drew ?_) | (with_reducible refine Below.alloc ?_ ?_ _) | (with_reducible refine Below.trans ?_ (Below.mono bW ?_)) | (with_reducible exact bW.size) | omega | (simp <;> omega) | (simp <;> (have s := bW.size; omega)) | (have s0 := bW.size; (try simp at s0); (try simp); omega))
end Go.Proofs.YtilbhcjnkmeecaaGreat

/- Parts of steps, as the program does them.
Conditions: those written at each theorem. -/
namespace Go.Proofs.YtilbhcjnkmeecaaGreat
set_option linter.unusedVariables false
set_option linter.unusedSimpArgs false
set_option maxRecDepth 1000000
open Go.RowKit
open Um Tm Cm Km

/-- a part of a step, as a value -/
def pv (x : Bool) : Value := if x then .iface 61 (.agg #[]) else .iface 69 (.agg #[])
theorem ta_pp : ∀ w, (Instr.typeAssert (.iface 61 (.agg #[])) 100 61 true).run Tryz.prog w = .ok (.tuple #[.agg #[], .bool true]) w := fun _ => by kernel_rfl
theorem ta_dp : ∀ w, (Instr.typeAssert (.iface 69 (.agg #[])) 100 61 true).run Tryz.prog w = .ok (.tuple #[.agg #[], .bool false]) w := fun _ => by kernel_rfl
theorem ta_dd : ∀ w, (Instr.typeAssert (.iface 69 (.agg #[])) 100 69 true).run Tryz.prog w = .ok (.tuple #[.agg #[], .bool true]) w := fun _ => by kernel_rfl
/-- what a part does -/
def act (a b c : Int) (s : List Q × List Int) (x : Bool) : List Q × List Int := if x then (s.1, psh (frc a b c s.1) s.2) else (dft s.1 s.2, s.2)
/-- three blocks alone may have been written -/
structure Kt3 (gl gp gm : Nat) (w w' : World) : Prop where
  os : w'.os = w.os
  tape : w'.tape = w.tape
  output : w'.output = w.output
  size : w.heap.size ≤ w'.heap.size
  block : ∀ k, k < w.heap.size → k ≠ gl → k ≠ gp → k ≠ gm → w'.heap[k]? = w.heap[k]?
theorem Kt3.refl {gl gp gm : Nat} (w : World) : Kt3 gl gp gm w w := ⟨rfl, rfl, rfl, Nat.le_refl _, fun _ _ _ _ _ => rfl⟩
theorem Kt3.trans {gl gp gm : Nat} {u v w : World} (h : Kt3 gl gp gm u v) (k : Kt3 gl gp gm v w) : Kt3 gl gp gm u w :=
  ⟨k.os.trans h.os, k.tape.trans h.tape, k.output.trans h.output, Nat.le_trans h.size k.size, fun i hi h1 h2 h3 => (k.block i (Nat.lt_of_lt_of_le hi h.size) h1 h2 h3).trans (h.block i hi h1 h2 h3)⟩
theorem Kt3.grown {gl gp gm : Nat} {u v w : World} {row : Option Nat} (h : Kt3 gl gp gm u v) (k : v.grownBy w row) (hr : row = none ∨ row = some gl ∨ row = some gp ∨ row = some gm) : Kt3 gl gp gm u w :=
  h.trans ⟨k.os, k.tape, k.output, k.size, fun i hi h1 h2 h3 => k.block i hi (by rcases hr with rfl | rfl | rfl | rfl <;> simp <;> omega)⟩
theorem Kt3.below {gl gp gm m : Nat} {u v : World} (h : Kt3 gl gp gm u v) (h0 : m ≤ u.heap.size) (h1 : m ≤ gl) (h2 : m ≤ gp) (h3 : m ≤ gm) : Below m u v :=
  ⟨h.os, h.tape, h.output, h.size, fun k hk => h.block k (by omega) (by omega) (by omega) (by omega)⟩
/-- a course with its momenta, in a state -/
structure KS (a b c : Int) (n N : Nat) (w : World) (m B gl gx gp gm kl kx km : Nat) (s : List Q × List Int) : Prop where
  co : CO a b c n N w m B gl gx gp kl kx s.1
  cm : CM n w m B gl gx gp gm km s.2
  st : St a b c n s.1 s.2
theorem act_St {a b c : Int} {n : Nat} {s : List Q × List Int} (h : St a b c n s.1 s.2) (x : Bool) : St a b c n (act a b c s x).1 (act a b c s x).2 := by
  cases x with
  | true => exact h.push _
  | false => exact h.drift
/-- the list while it is written -/
def mixL (T l : List Int) (k : Nat) : List Int := T.take k ++ l.drop k
theorem mix_zero (T l : List Int) : mixL T l 0 = l := by simp [mixL]
theorem mix_end {T l : List Int} (h : T.length = l.length) : mixL T l l.length = T := by
  unfold mixL
  rw [← h, List.take_length, h, List.drop_length, List.append_nil]
theorem mix_len {T l : List Int} (h : T.length = l.length) (k : Nat) (hk : k ≤ l.length) : (mixL T l k).length = l.length := by
  unfold mixL
  rw [List.length_append, List.length_take, List.length_drop]
  omega
theorem mix_set {T l : List Int} (h : T.length = l.length) {k : Nat} (hk : k < l.length) {v : Int} (hv : T[k]? = some v) : (mixL T l k).set k v = mixL T l (k + 1) := by
  have := set_take_drop h hk
  rw [List.getElem?_eq_getElem (by omega)] at hv
  rw [Option.some.inj hv] at this
  exact this
theorem mix_at {T l : List Int} (h : T.length = l.length) {i j : Nat} (hij : i ≤ j) (hj : j < l.length) : (mixL T l i)[j]? = l[j]? := at_take_drop h hij hj
def mixQ (T L : List Q) (k : Nat) : List Q := T.take k ++ L.drop k
theorem mixQ_zero (T L : List Q) : mixQ T L 0 = L := by simp [mixQ]
theorem mixQ_end {T L : List Q} (h : T.length = L.length) : mixQ T L L.length = T := by
  unfold mixQ
  rw [← h, List.take_length, h, List.drop_length, List.append_nil]
theorem mixQ_len {T L : List Q} (h : T.length = L.length) (k : Nat) (hk : k ≤ L.length) : (mixQ T L k).length = L.length := by
  unfold mixQ
  rw [List.length_append, List.length_take, List.length_drop]
  omega
theorem mixQ_set {T L : List Q} (h : T.length = L.length) {k : Nat} (hk : k < L.length) {v : Q} (hv : T[k]? = some v) : (mixQ T L k).set k v = mixQ T L (k + 1) := by
  have := set_take_drop h hk
  rw [List.getElem?_eq_getElem (by omega)] at hv
  rw [Option.some.inj hv] at this
  exact this
theorem mixQ_at {T L : List Q} (h : T.length = L.length) {i j : Nat} (hij : i ≤ j) (hj : j < L.length) : (mixQ T L i)[j]? = L[j]? := at_take_drop h hij hj
theorem psh_at (F : Nat → Kk) {l : List Int} {j i : Nat} (hi : i < 3) (h : j * 3 + i < l.length) : (psh F l)[j * 3 + i]? = some ((l[j * 3 + i] + (F j).at i) % 8) := by
  rw [psh_get F l h, show (j * 3 + i) / 3 = j by omega, show (j * 3 + i) % 3 = i by omega]
theorem frc_rng {a b c : Int} {L : List Q} (hF : Fl a b c L) (hS : ∀ x ∈ L, IsS x) {i : Nat} (hi : i < L.length) : (-8 ≤ (frc a b c L i).a ∧ (frc a b c L i).a ≤ 8) ∧ (-8 ≤ (frc a b c L i).b ∧ (frc a b c L i).b ≤ 8) ∧ (-8 ≤ (frc a b c L i).c ∧ (frc a b c L i).c ≤ 8) := by
  have hl3 := hF.n
  have h0 : (0 : Int) ≤ (i : Int) / 3 := by omega
  have h1 : (i : Int) / 3 < a * b * c := by omega
  have d1 : 1 ≤ (i : Int) % 3 + 1 := by omega
  have d3 : (i : Int) % 3 + 1 ≤ 3 := by omega
  obtain ⟨i1, i2, i3⟩ := e_step d1 d3
  have q1 := (pl4_S hF hS h0 h1 i3 i1).tw.2.2.2.2
  have q2 := (pl4_S hF hS h0 h1 i3 (neg_step i1)).tw.2.2.2.2
  have q3 := (pl4_S hF hS h0 h1 i3 i2).tw.2.2.2.2
  have q4 := (pl4_S hF hS h0 h1 i3 (neg_step i2)).tw.2.2.2.2
  unfold frc frA
  simp only
  omega
set_option maxHeartbeats 12800000 in
theorem do_any (a b c : Int) (n N : Nat) (w : World) (m B gl gx gp gm kl kx km pb pc : Nat) (s : List Q × List Int) (P : List Bool) (h : KS a b c n N w m B gl gx gp gm kl kx km s) (hN : (N : Int) = a * b * c) (hP : ∀ (i : Nat) (x : Bool), P[i]? = some x → w.cell? ⟨pb, i, none⟩ = some (pv x)) (hp3 : P.length ≤ 3) (n1 : pb ≠ gl) (n2 : pb ≠ gp) (n3 : pb ≠ gm) :
    Calls Tryz.prog 30 #[.pointer (some ⟨B, 0, none⟩), .slice (some ⟨pb, 0, none⟩) P.length pc] w fun e w' => e = .returned (.tuple #[]) ∧ KS a b c n N w' m B gl gx gp gm kl kx km (P.foldl (act a b c) s) ∧ Kt3 gl gp gm w w' := by
  have kc := @Tail.cell_re
  have kc1 : ∀ (W : World) (o : Obj) (d : Nat) (os : Array Obj) (a : Addr), a.block ≤ W.heap.size → (Sort.grow (redrawn (W.alloc o) d) os).cell? a = (W.alloc o).cell? a := fun W o d os a h => Tail.cell_re (W.alloc o) d os a (Nat.lt_of_le_of_lt h (by simp))
  have HPc := Lib.hid hP
  have HNN := Lib.hid hN
  have HK0 := Lib.hid h
  have HT := Lib.hid (fun k : Nat => (show k < P.length → P.foldl (act a b c) s = P.foldl (act a b c) s from fun _ => rfl))
  have HX := Lib.hid (fun (k : Nat) (x : Bool) (hx : P[k]? = some x) => show (P.take (k + 1)).foldl (act a b c) s = act a b c ((P.take k).foldl (act a b c) s) x by
    have hk := (List.getElem?_eq_some_iff.1 hx).1
    rw [List.take_succ_eq_append_getElem hk, List.foldl_append]
    rw [(List.getElem?_eq_some_iff.1 hx).2]
    rfl)
  have hmw : m ≤ w.heap.size := Nat.le_of_lt (Nat.lt_of_le_of_lt h.co.mb h.co.lb)
  clear h hP hN HT
  have t1 := ta_pp
  have t2 := ta_dp
  have t3 := ta_dd
  go_enter Tryz.func30, Tryz.ntmps30
  go_wp2
  go_loopw [5, 6, 7, 8, 9, 10, 13] (fun _ _ _ _ _ _ q wr => ∃ k : Nat, k ≤ P.length ∧ q = .int .i64 k ∧ Hid (KS a b c n N wr m B gl gx gp gm kl kx km ((P.take k).foldl (act a b c) s)) ∧ Hid (∀ (i : Nat) (x : Bool), P[i]? = some x → wr.cell? ⟨pb, i, none⟩ = some (pv x)) ∧ Kt3 gl gp gm w wr) (fun _ _ _ _ _ _ q _ => P.length - (intOf q).toNat)
  case atStart => exact ⟨0, by omega, rfl, HK0, HPc, Kt3.refl _⟩
  case round =>
    obtain ⟨k, hk, rfl, hK, hPc, hb⟩ := hrel
    by_cases hlt : k < P.length
    · have i1 : (k : Int) < (P.length : Int) := by omega
      have hx : P[k]? = some P[k] := List.getElem?_eq_getElem hlt
      have hnext := HX.out k _ hx
      have hcell := hPc.out k _ hx
      generalize P[k] = x at *
      generalize (P.take k).foldl (act a b c) s = s0 at *
      have HNX := Lib.hid hnext
      have hpl : pb < wr.heap.size := World.block_lt_of_cell? wr _ hcell
      clear hnext hx
      cases x with
      | true =>
        have hcell' : wr.cell? ⟨pb, k, none⟩ = some (.iface 61 (.agg #[])) := hcell
        clear hcell
        have cm := hK.out.cm.cm
        have lB := hK.out.co.lb
        obtain ⟨L, l⟩ := s0
        have hSt := hK.out.st
        have hco0 := hK.out.co
        have hcm0 := hK.out.cm
        simp only at hSt hco0 hcm0
        have HF := Lib.hid (fun (W : World) (j : Nat) (hj : j < n) (hC : CO a b c n N W m B gl gx gp kl kx L) => forceC_any a b c n N W m B gl gx gp kl kx L j hC hSt.f hSt.s hSt.e HNN.out hj)
        have HR := Lib.hid (fun (j : Nat) (hj : j < n) => frc_rng hSt.f hSt.s (i := j) (by rw [hSt.e]; exact hj))
        have HSN := Lib.hid (act_St (a := a) (b := b) (c := c) (s := (L, l)) hSt true)
        have hTl : (psh (frc a b c L) l).length = l.length := psh_len _ _
        have HTA := Lib.hid (fun (j i : Nat) (hi : i < 3) (h : j * 3 + i < l.length) => psh_at (frc a b c L) hi h)
        have HLN := Lib.hid hSt.m
        have HLK := Lib.hid hSt.k
        have HTL := Lib.hid hTl
        have HAC := Lib.hid (show act a b c (L, l) true = (L, psh (frc a b c L) l) from rfl)
        have n48 : n ≤ 48 := by have := hSt.f.n; have := hSt.f.z.p; have := hSt.e; omega
        have HCO := Lib.hid hco0
        have HCM : Hid (CM n wr m B gl gx gp gm km (mixL (psh (frc a b c L) l) l (0 * 3))) := by rw [Nat.zero_mul, mix_zero]; exact Lib.hid hcm0
        have hd1 := hco0.d1
        have hd3 := hco0.d3
        have he1 := hcm0.e1
        have he2 := hcm0.e2
        have he3 := hcm0.e3
        have he4 := hcm0.e4
        have hmm := hcm0.mm
        have hmp := hco0.mp
        clear hSt hco0 hcm0 hTl hK
        generalize psh (frc a b c L) l = T at *
        generalize frc a b c L = F at *
        go_wp2
        obtain ⟨wo, hwo⟩ : ∃ wo : World, wo = wr := ⟨_, rfl⟩
        subst hwo
        go_loopw [6, 7, 8, 26] (fun _ _ _ q2 wi => ∃ j : Nat, j ≤ n ∧ q2 = .int .i64 j ∧ Hid (CO a b c n N wi m B gl gx gp kl kx L) ∧ Hid (CM n wi m B gl gx gp gm km (mixL T l (j * 3))) ∧ Hid (∀ (i : Nat) (x : Bool), P[i]? = some x → wi.cell? ⟨pb, i, none⟩ = some (pv x)) ∧ Kt3 gl gp gm w wi) (fun _ _ _ q2 _ => n - (intOf q2).toNat)
        case atStart => exact ⟨0, by omega, rfl, HCO, HCM, hPc, hb⟩
        case round =>
          obtain ⟨j, hj, rfl, hC, hM, hPi, hbi⟩ := hrel
          clear HCO HCM hPc hb cm lB hcell' hpl
          by_cases hjn : j < n
          · have j1 : (j : Int) < (n : Int) := by omega
            have c0 := fun (W : World) (h : CO a b c n N W m B gl gx gp kl kx L) => HF.out W j hjn h
            obtain ⟨⟨a1, a2⟩, ⟨b1, b2⟩, ⟨g1, g2⟩⟩ := HR.out j hjn
            have hl0 : j * 3 + 0 < l.length := by have := HLN.out; omega
            have hl1 : j * 3 + 1 < l.length := by have := HLN.out; omega
            have hl2 : j * 3 + 2 < l.length := by have := HLN.out; omega
            have v0 := HTA.out j 0 (by omega) hl0
            have v1 := HTA.out j 1 (by omega) hl1
            have v2 := HTA.out j 2 (by omega) hl2
            have m0 := mix_set HTL.out hl0 v0
            have m1 := mix_set HTL.out hl1 v1
            have m2 := mix_set HTL.out hl2 v2
            have o0 := mix_at HTL.out (Nat.le_refl (j * 3 + 0)) hl0
            have o1 := mix_at HTL.out (Nat.le_refl (j * 3 + 1)) hl1
            have o2 := mix_at HTL.out (Nat.le_refl (j * 3 + 2)) hl2
            have k0 := HLK.out _ (List.getElem_mem hl0)
            have k1 := HLK.out _ (List.getElem_mem hl1)
            have k2 := HLK.out _ (List.getElem_mem hl2)
            have p0 := mix_len HTL.out (j * 3 + 0) (by omega)
            have p1 := mix_len HTL.out (j * 3 + 1) (by omega)
            have p2 := mix_len HTL.out (j * 3 + 2) (by omega)
            rw [List.getElem?_eq_getElem hl0] at o0
            rw [List.getElem?_eq_getElem hl1] at o1
            rw [List.getElem?_eq_getElem hl2] at o2
            clear v0 v1 v2
            generalize l[j * 3 + 0] = x0 at *
            generalize l[j * 3 + 1] = x1 at *
            generalize l[j * 3 + 2] = x2 at *
            rw [show (F j).at 0 = (F j).a from rfl] at m0
            rw [show (F j).at 1 = (F j).b from rfl] at m1
            rw [show (F j).at 2 = (F j).c from rfl] at m2
            generalize (F j).a = f0 at *
            generalize (F j).b = f1 at *
            generalize (F j).c = f2 at *
            obtain ⟨k00, k01⟩ := k0
            obtain ⟨k10, k11⟩ := k1
            obtain ⟨k20, k21⟩ := k2
            have t0 := fun W : World => still (turned_any (x0 + f0) W)
            have t1' := fun W : World => still (turned_any (x1 + f1) W)
            have t2' := fun W : World => still (turned_any (x2 + f2) W)
            have ia0 := ixC0 f0 f1 f2
            have ia1 := ixC1 f0 f1 f2
            have ia2 := ixC2 f0 f1 f2
            generalize (x0 + f0) % 8 = y0 at *
            generalize (x1 + f1) % 8 = y1 at *
            generalize (x2 + f2) % 8 = y2 at *
            have HM0 := Lib.hid m0
            have HM1 := Lib.hid m1
            have HM2 := Lib.hid m2
            have HO0 := Lib.hid o0
            have HO1 := Lib.hid o1
            have HO2 := Lib.hid o2
            have HQ0 := Lib.hid (show j * 3 + 0 < (mixL T l (j * 3 + 0)).length by omega)
            have HQ1 := Lib.hid (show j * 3 + 1 < (mixL T l (j * 3 + 1)).length by omega)
            have HQ2 := Lib.hid (show j * 3 + 2 < (mixL T l (j * 3 + 2)).length by omega)
            clear m0 m1 m2 o0 o1 o2 p0 p1 p2 hl0 hl1 hl2
            have lBi := hC.out.lb
            have HBi := Lib.hid hbi
            clear hbi
            go_wp2_with (fail)
            refine (c0 _ hC.out).mono ?_
            clear c0
            rintro e w1 ⟨rfl, hg1, hp1⟩
            have C0 := Lib.hid (hC.out.touch hg1 hp1)
            have M0 : Hid (CM n w1 m B gl gx gp gm km (mixL T l (j * 3 + 0))) := Lib.hid (hM.out.far hg1 (by simp; exact hd3) (by simp; exact he1))
            have Q0 : Hid (∀ (i : Nat) (x : Bool), P[i]? = some x → w1.cell? ⟨pb, i, none⟩ = some (pv x)) := Lib.hid (fun i x hx => hg1.cell (hPi.out i x hx) (by simp; exact n2))
            have b0 := Lib.hid (HBi.out.grown hg1 (.inr (.inr (.inl rfl))))
            clear hC hM hPi HBi lBi hg1 hp1
            go_wp2_with (fail)
            refine wp_loop_rounds 4 ?_
            have cm0 := M0.out.cm
            have xc0 := M0.out.mi.at HO0.out
            rw [Nat.add_zero] at xc0
            have ff0 := M0.out.mi.free
            have lg0 := M0.out.mi.lt
            have lb0 := C0.out.lb
            rw [rounds_succ]
            go_wp2
            refine Tail.region_tail_below 20 (by kernel_rfl) (by kernel_rfl) ?_
            simp only [List.take_succ_cons, List.take_zero]
            repeat (go_big_quiet_step (first | (with_reducible exact Calls.regrown_of (t0 _))))
            refine wpQuiet_nil ?_
            intro z0 hz0
            have Cz0 := C0.out.later hz0
            have Mz0 := M0.out.later hz0
            have bz0 := b0.out.grown (grown_ofB (row := none) hz0) (.inl rfl)
            have Qz0 : ∀ (i : Nat) (x : Bool), P[i]? = some x → z0.cell? ⟨pb, i, none⟩ = some (pv x) := fun i x hx => held_below hz0 (Q0.out i x hx)
            have xz0 := Mz0.mi.at HO0.out
            rw [Nat.add_zero] at xz0
            have fz0 := Mz0.mi.free
            have lz0 := Mz0.mi.lt
            have Mp := Mz0.put (j * 3 + 0) HQ0.out y0
            rw [HM0.out] at Mp
            have Gp := grown_setCell z0 ⟨gm, j * 3 + 0, none⟩ (.int .i64 y0)
            have C1 := Lib.hid (Cz0.far Gp (by simp; exact Ne.symm he4) (by simp; exact Ne.symm he2) (by simp; exact Ne.symm he3) (by simp; exact Ne.symm he1))
            have M1 := Lib.hid Mp
            have Q1 : Hid (∀ (i : Nat) (x : Bool), P[i]? = some x → (z0.setCell ⟨gm, j * 3 + 0, none⟩ (.int .i64 y0)).cell? ⟨pb, i, none⟩ = some (pv x)) := Lib.hid (fun i x hx => Gp.cell (Qz0 i x hx) (by simp; exact n3))
            have b1 := Lib.hid (bz0.grown Gp (.inr (.inr (.inr rfl))))
            clear Cz0 Mz0 bz0 Qz0 Mp Gp cm0 xc0 ff0 lg0 lb0 C0 M0 Q0 b0 hz0
            simp only [Nat.add_zero] at C1 M1 Q1 b1
            go_wp2
            clear xz0 fz0 lz0
            generalize z0.setCell ⟨gm, j * 3, none⟩ (.int .i64 y0) = X1 at *
            have cm1 := M1.out.cm
            have xc1 := M1.out.mi.at HO1.out
            have ff1 := M1.out.mi.free
            have lg1 := M1.out.mi.lt
            have lb1 := C1.out.lb
            rw [rounds_succ]
            go_wp2
            refine Tail.region_tail_below 20 (by kernel_rfl) (by kernel_rfl) ?_
            simp only [List.take_succ_cons, List.take_zero]
            repeat (go_big_quiet_step (first | (with_reducible exact Calls.regrown_of (t1' _))))
            refine wpQuiet_nil ?_
            intro z1 hz1
            have Cz1 := C1.out.later hz1
            have Mz1 := M1.out.later hz1
            have bz1 := b1.out.grown (grown_ofB (row := none) hz1) (.inl rfl)
            have Qz1 : ∀ (i : Nat) (x : Bool), P[i]? = some x → z1.cell? ⟨pb, i, none⟩ = some (pv x) := fun i x hx => held_below hz1 (Q1.out i x hx)
            have xz1 := Mz1.mi.at HO1.out
            have fz1 := Mz1.mi.free
            have lz1 := Mz1.mi.lt
            have Mp := Mz1.put (j * 3 + 1) HQ1.out y1
            rw [HM1.out] at Mp
            have Gp := grown_setCell z1 ⟨gm, j * 3 + 1, none⟩ (.int .i64 y1)
            have C2 := Lib.hid (Cz1.far Gp (by simp; exact Ne.symm he4) (by simp; exact Ne.symm he2) (by simp; exact Ne.symm he3) (by simp; exact Ne.symm he1))
            have M2 := Lib.hid Mp
            have Q2 : Hid (∀ (i : Nat) (x : Bool), P[i]? = some x → (z1.setCell ⟨gm, j * 3 + 1, none⟩ (.int .i64 y1)).cell? ⟨pb, i, none⟩ = some (pv x)) := Lib.hid (fun i x hx => Gp.cell (Qz1 i x hx) (by simp; exact n3))
            have b2 := Lib.hid (bz1.grown Gp (.inr (.inr (.inr rfl))))
            clear Cz1 Mz1 bz1 Qz1 Mp Gp cm1 xc1 ff1 lg1 lb1 C1 M1 Q1 b1 hz1
            go_wp2
            clear xz1 fz1 lz1
            generalize z1.setCell ⟨gm, j * 3 + 1, none⟩ (.int .i64 y1) = X2 at *
            have cm2 := M2.out.cm
            have xc2 := M2.out.mi.at HO2.out
            have ff2 := M2.out.mi.free
            have lg2 := M2.out.mi.lt
            have lb2 := C2.out.lb
            rw [rounds_succ]
            go_wp2
            refine Tail.region_tail_below 20 (by kernel_rfl) (by kernel_rfl) ?_
            simp only [List.take_succ_cons, List.take_zero]
            repeat (go_big_quiet_step (first | (with_reducible exact Calls.regrown_of (t2' _))))
            refine wpQuiet_nil ?_
            intro z2 hz2
            have Cz2 := C2.out.later hz2
            have Mz2 := M2.out.later hz2
            have bz2 := b2.out.grown (grown_ofB (row := none) hz2) (.inl rfl)
            have Qz2 : ∀ (i : Nat) (x : Bool), P[i]? = some x → z2.cell? ⟨pb, i, none⟩ = some (pv x) := fun i x hx => held_below hz2 (Q2.out i x hx)
            have xz2 := Mz2.mi.at HO2.out
            have fz2 := Mz2.mi.free
            have lz2 := Mz2.mi.lt
            have Mp := Mz2.put (j * 3 + 2) HQ2.out y2
            rw [HM2.out] at Mp
            have Gp := grown_setCell z2 ⟨gm, j * 3 + 2, none⟩ (.int .i64 y2)
            have C3 := Lib.hid (Cz2.far Gp (by simp; exact Ne.symm he4) (by simp; exact Ne.symm he2) (by simp; exact Ne.symm he3) (by simp; exact Ne.symm he1))
            have M3 := Lib.hid Mp
            have Q3 : Hid (∀ (i : Nat) (x : Bool), P[i]? = some x → (z2.setCell ⟨gm, j * 3 + 2, none⟩ (.int .i64 y2)).cell? ⟨pb, i, none⟩ = some (pv x)) := Lib.hid (fun i x hx => Gp.cell (Qz2 i x hx) (by simp; exact n3))
            have b3 := Lib.hid (bz2.grown Gp (.inr (.inr (.inr rfl))))
            clear Cz2 Mz2 bz2 Qz2 Mp Gp cm2 xc2 ff2 lg2 lb2 C2 M2 Q2 b2 hz2
            go_wp2
            clear xz2 fz2 lz2
            generalize z2.setCell ⟨gm, j * 3 + 2, none⟩ (.int .i64 y2) = X3 at *
            rw [rounds_succ]
            have M4 : Hid (CM n X3 m B gl gx gp gm km (mixL T l ((j + 1) * 3))) := by rw [show (j + 1) * 3 = j * 3 + 3 by omega]; exact M3
            go_wp2
            exact ⟨⟨j + 1, by omega, by go_num, C3, M4, Q3, b3.out⟩, by simp [intOf]; omega⟩
          · obtain rfl : j = n := by omega
            have hMf := hM.out
            rw [show j * 3 = l.length from HLN.out.symm, mix_end HTL.out] at hMf
            have HKS : Hid (KS a b c j N wr m B gl gx gp gm kl kx km (act a b c (L, l) true)) := by
              rw [HAC.out]
              have := HSN.out
              rw [HAC.out] at this
              exact Lib.hid ⟨hC.out, hMf, this⟩
            rw [← HNX.out] at HKS
            clear hMf hC hM
            go_wp2
            exact ⟨⟨k + 1, by omega, by go_num, HKS, hPi, hbi⟩, by simp [intOf]; omega⟩
      | false =>
        have hcell' : wr.cell? ⟨pb, k, none⟩ = some (.iface 69 (.agg #[])) := hcell
        clear hcell
        have cm := hK.out.cm.cm
        have lB := hK.out.co.lb
        obtain ⟨L, l⟩ := s0
        have hSt := hK.out.st
        have hco0 := hK.out.co
        have hcm0 := hK.out.cm
        simp only at hSt hco0 hcm0
        have HSN := Lib.hid (act_St (a := a) (b := b) (c := c) (s := (L, l)) hSt false)
        have hTl : (dft L l).length = L.length := dft_len _ _
        have HTA := Lib.hid (fun (j : Nat) (h : j < L.length) => dft_get L l h)
        have HTN := Lib.hid (fun (j : Nat) => turn_S (hSt.k.at3 j))
        have HLS := Lib.hid hSt.s
        have HLN := Lib.hid hSt.m
        have HLE := Lib.hid hSt.e
        have HLK := Lib.hid hSt.k
        have HTL := Lib.hid hTl
        have HAC := Lib.hid (show act a b c (L, l) false = (dft L l, l) from rfl)
        have n48 : n ≤ 48 := by have := hSt.f.n; have := hSt.f.z.p; have := hSt.e; omega
        have HCM := Lib.hid hcm0
        have HCO : Hid (CO a b c n N wr m B gl gx gp kl kx (mixQ (dft L l) L 0)) := by rw [mixQ_zero]; exact Lib.hid hco0
        have hd1 := hco0.d1
        have hd3 := hco0.d3
        have hd5 := hco0.d5
        have he1 := hcm0.e1
        have he2 := hcm0.e2
        have he4 := hcm0.e4
        have hmm := hcm0.mm
        have hmp := hco0.mp
        have hml := hco0.ml
        clear hSt hco0 hcm0 hTl hK
        generalize dft L l = T at *
        go_wp2
        obtain ⟨wo, hwo⟩ : ∃ wo : World, wo = wr := ⟨_, rfl⟩
        subst hwo
        go_loopw [9, 10, 66] (fun _ _ q2 wi => ∃ j : Nat, j ≤ n ∧ q2 = .int .i64 j ∧ Hid (CO a b c n N wi m B gl gx gp kl kx (mixQ T L j)) ∧ Hid (CM n wi m B gl gx gp gm km l) ∧ Hid (∀ (i : Nat) (x : Bool), P[i]? = some x → wi.cell? ⟨pb, i, none⟩ = some (pv x)) ∧ Kt3 gl gp gm w wi) (fun _ _ q2 _ => n - (intOf q2).toNat)
        case atStart => exact ⟨0, by omega, rfl, HCO, HCM, hPc, hb⟩
        case round =>
          obtain ⟨j, hj, rfl, hC, hM, hPi, hbi⟩ := hrel
          clear HCO HCM hPc hb cm lB hcell' hpl
          by_cases hjn : j < n
          · have j1 : (j : Int) < (n : Int) := by omega
            have hl2 : j * 3 + 2 < l.length := by have := HLN.out; omega
            have hlj : j < L.length := by have := HLE.out; omega
            have v0 := HTA.out j hlj
            have m0 := mixQ_set HTL.out hlj v0
            have o0 := mixQ_at HTL.out (Nat.le_refl j) hlj
            have pl0 := mixQ_len HTL.out j (by omega)
            rw [List.getElem?_eq_getElem hlj] at o0
            have hS0 := HTN.out j
            have hY := HLS.out _ (List.getElem_mem hlj)
            have cm := hM.out.cm
            have x0 := hM.out.mi.at (List.getElem?_eq_getElem (show j * 3 < l.length by omega))
            have x1 := hM.out.mi.at (List.getElem?_eq_getElem (show j * 3 + 1 < l.length by omega))
            have x2 := hM.out.mi.at (List.getElem?_eq_getElem hl2)
            have ek : at3 l j = ⟨l[j * 3]'(by omega), l[j * 3 + 1]'(by omega), l[j * 3 + 2]⟩ := by
              unfold at3
              simp only [List.getD_eq_getElem?_getD, List.getElem?_eq_getElem (show j * 3 < l.length by omega), List.getElem?_eq_getElem (show j * 3 + 1 < l.length by omega), List.getElem?_eq_getElem hl2, Option.getD_some]
            rw [ek] at hS0 m0
            clear ek v0
            generalize l[j * 3]'(by omega) = k0 at *
            generalize l[j * 3 + 1]'(by omega) = k1 at *
            generalize l[j * 3 + 2] = k2 at *
            generalize L[j] = y at *
            have c1 := fun W : World => turner_any ⟨k0, k1, k2⟩ W
            simp only at c1
            generalize turn ⟨k0, k1, k2⟩ = u at *
            have c2 := fun W : World => numberOf_any u W hS0.1
            have c3 := fun (W : World) (h : PR W gp) => timesN_any gp u y W h hS0.1 hY
            generalize low (mul u y) = v at *
            have lgm := hM.out.mi.lt
            have lgl := hC.out.li.lt
            have lgp := hC.out.pr.lt
            have lB := hC.out.lb
            have lpb : pb < wr.heap.size ∨ True := .inr trivial
            have hlk := hC.out.li.at (i := j) (x := nm y) (by rw [List.getElem?_map, o0]; rfl)
            have cl := hC.out.cl
            have cp := hC.out.cp
            have HM0 := Lib.hid m0
            have HPL := Lib.hid (show j < (mixQ T L j).length by omega)
            clear m0 o0 pl0 hS0 hY hl2 hlj
            go_wp2
            have r0 : (wr.alloc (.cells #[.int .i64 k0, .int .i64 k1, .int .i64 k2] 38)).cell? ⟨wr.heap.size, 0, none⟩ = some (.int .i64 k0) := by simp [go_sem]
            have r1 : (wr.alloc (.cells #[.int .i64 k0, .int .i64 k1, .int .i64 k2] 38)).cell? ⟨wr.heap.size, 1, none⟩ = some (.int .i64 k1) := by simp [go_sem]
            have r2 : (wr.alloc (.cells #[.int .i64 k0, .int .i64 k1, .int .i64 k2] 38)).cell? ⟨wr.heap.size, 2, none⟩ = some (.int .i64 k2) := by simp [go_sem]
            have bA : Below wr.heap.size wr (wr.alloc (.cells #[.int .i64 k0, .int .i64 k1, .int .i64 k2] 38)) := by repeat (first | (with_reducible exact Below.refl _ _) | (with_reducible refine Below.setCell ?_ ?_ _) | (with_reducible refine Below.drew ?_) | (with_reducible refine Below.alloc ?_ ?_ _) | omega | (simp <;> omega))
            have yl := held_below bA cl
            have yp := held_below bA cp
            have yk := held_below bA hlk
            have CA := hC.out.later bA
            have MA := Lib.hid (hM.out.later bA)
            have fA := CA.li.free
            have lA := CA.li.lt
            have lpA := CA.pr.lt
            have QA : Hid (∀ (i : Nat) (x : Bool), P[i]? = some x → (wr.alloc (.cells #[.int .i64 k0, .int .i64 k1, .int .i64 k2] 38)).cell? ⟨pb, i, none⟩ = some (pv x)) := Lib.hid (fun i x hx => held_below bA (hPi.out i x hx))
            have HBA := Lib.hid (hbi.grown (grown_ofB (row := none) bA) (.inl rfl))
            have HCA := Lib.hid CA
            have hRg : wr.heap.size ≠ gp := by omega
            have hglR : gl ≠ wr.heap.size := by omega
            clear bA CA hC hM hPi hbi cl cp hlk cm x0 x1 x2 lgm lgl lgp lpb
            generalize wr.alloc (.cells #[.int .i64 k0, .int .i64 k1, .int .i64 k2] 38) = A at *
            have lR : wr.heap.size < A.heap.size := World.block_lt_of_cell? A _ r0
            have lBA : B < A.heap.size := World.block_lt_of_cell? A _ yl
            generalize wr.heap.size = R at *
            refine wp_region_noPanic ?_
            refine wp_region_held_drew (S := (fun w' => w'.cell? ⟨B, 3, none⟩ = some (.slice (some ⟨gl, 0, none⟩) n kl) ∧ w'.cell? ⟨B, 6, none⟩ = some (.pointer (some ⟨gp, 0, none⟩)) ∧ w'.cell? ⟨R, 0, none⟩ = some (.int .i64 k0) ∧ w'.cell? ⟨R, 1, none⟩ = some (.int .i64 k1) ∧ w'.cell? ⟨R, 2, none⟩ = some (.int .i64 k2))) (by kernel_rfl) ?_ (fun hHeld => ?_)
            · (try dsimp only)
              exact ⟨yl, yp, r0, r1, r2⟩
            refine wpAnyH_take (i := 0) (v := ?_) rfl (by kernel_rfl) (by kernel_rfl) (by kernel_rfl) (fun _ _ _ h => h) (Or.inl ⟨by rfl, ?_⟩) (by assumption) ?_
            rotate_left
            · (intro w hSw; (try dsimp only at hSw); (try simp only [List.getElem_toArray, List.getElem_cons_zero, List.getElem_cons_succ]); go_simp; (try with_reducible rfl))
            (try simp only [Act.put, List.setIfInBounds_toArray, List.set_cons_zero, List.set_cons_succ, List.getElem_toArray, List.getElem_cons_zero, List.getElem_cons_succ])
            refine wpAnyH_take (i := 1) (v := ?_) rfl (by kernel_rfl) (by kernel_rfl) (by kernel_rfl) (fun _ _ _ h => h) (Or.inl ⟨by rfl, ?_⟩) (by assumption) ?_
            rotate_left
            · (intro w hSw; (try dsimp only at hSw); (try simp only [List.getElem_toArray, List.getElem_cons_zero, List.getElem_cons_succ]); go_simp; (try with_reducible rfl))
            (try simp only [Act.put, List.setIfInBounds_toArray, List.set_cons_zero, List.set_cons_succ, List.getElem_toArray, List.getElem_cons_zero, List.getElem_cons_succ])
            refine wpAnyH_take (i := 2) (v := ?_) rfl (by kernel_rfl) (by kernel_rfl) (by kernel_rfl) (fun _ _ _ h => h) (Or.inl ⟨by rfl, ?_⟩) (by assumption) ?_
            rotate_left
            · (intro w hSw; (try dsimp only at hSw); (try simp only [List.getElem_toArray, List.getElem_cons_zero, List.getElem_cons_succ]); go_simp; (try with_reducible rfl))
            (try simp only [Act.put, List.setIfInBounds_toArray, List.set_cons_zero, List.set_cons_succ, List.getElem_toArray, List.getElem_cons_zero, List.getElem_cons_succ])
            refine wpAnyH_take (i := 3) (v := ?_) rfl (by kernel_rfl) (by kernel_rfl) (by kernel_rfl) (fun _ _ _ h => h) (Or.inl ⟨by rfl, ?_⟩) (by assumption) ?_
            rotate_left
            · (intro w hSw; (try dsimp only at hSw); (try simp only [List.getElem_toArray, List.getElem_cons_zero, List.getElem_cons_succ]); go_simp; (try with_reducible rfl))
            (try simp only [Act.put, List.setIfInBounds_toArray, List.set_cons_zero, List.set_cons_succ, List.getElem_toArray, List.getElem_cons_zero, List.getElem_cons_succ])
            refine wpAnyH_take (i := 4) (v := ?_) rfl (by kernel_rfl) (by kernel_rfl) (by kernel_rfl) (fun _ _ _ h => h) (Or.inl ⟨by rfl, ?_⟩) (by assumption) ?_
            rotate_left
            · (intro w hSw; (try dsimp only at hSw); (try simp only [List.getElem_toArray, List.getElem_cons_zero, List.getElem_cons_succ]); go_simp; (try with_reducible rfl))
            (try simp only [Act.put, List.setIfInBounds_toArray, List.set_cons_zero, List.set_cons_succ, List.getElem_toArray, List.getElem_cons_zero, List.getElem_cons_succ])
            refine wpAnyH_take (i := 5) (v := ?_) rfl (by kernel_rfl) (by kernel_rfl) (by kernel_rfl) (fun _ _ _ h => h) (Or.inl ⟨by rfl, ?_⟩) (by assumption) ?_
            rotate_left
            · (intro w hSw; (try dsimp only at hSw); (try simp only [List.getElem_toArray, List.getElem_cons_zero, List.getElem_cons_succ]); go_simp; (try with_reducible rfl))
            (try simp only [Act.put, List.setIfInBounds_toArray, List.set_cons_zero, List.set_cons_succ, List.getElem_toArray, List.getElem_cons_zero, List.getElem_cons_succ])
            refine wpAnyH_take (i := 6) (v := ?_) rfl (by kernel_rfl) (by kernel_rfl) (by kernel_rfl) (fun _ _ _ h => h) (Or.inl ⟨by rfl, ?_⟩) (by assumption) ?_
            rotate_left
            · (intro w hSw; (try dsimp only at hSw); (try simp only [List.getElem_toArray, List.getElem_cons_zero, List.getElem_cons_succ]); go_simp; (try with_reducible rfl))
            (try simp only [Act.put, List.setIfInBounds_toArray, List.set_cons_zero, List.set_cons_succ, List.getElem_toArray, List.getElem_cons_zero, List.getElem_cons_succ])
            refine wpAnyH_take (i := 7) (v := ?_) rfl (by kernel_rfl) (by kernel_rfl) (by kernel_rfl) (fun _ _ _ h => h) (Or.inl ⟨by rfl, ?_⟩) (by assumption) ?_
            rotate_left
            · (intro w hSw; (try dsimp only at hSw); (try simp only [List.getElem_toArray, List.getElem_cons_zero, List.getElem_cons_succ]); go_simp; (try with_reducible rfl))
            (try simp only [Act.put, List.setIfInBounds_toArray, List.set_cons_zero, List.set_cons_succ, List.getElem_toArray, List.getElem_cons_zero, List.getElem_cons_succ])
            refine wpAnyH_take (i := 8) (v := ?_) rfl (by kernel_rfl) (by kernel_rfl) (by kernel_rfl) (fun _ _ _ h => h) (Or.inl ⟨by rfl, ?_⟩) (by assumption) ?_
            rotate_left
            · (intro w hSw; (try dsimp only at hSw); (try simp only [List.getElem_toArray, List.getElem_cons_zero, List.getElem_cons_succ]); go_simp; (try with_reducible rfl))
            (try simp only [Act.put, List.setIfInBounds_toArray, List.set_cons_zero, List.set_cons_succ, List.getElem_toArray, List.getElem_cons_zero, List.getElem_cons_succ])
            refine wpAnyH_take (i := 9) (v := ?_) rfl (by kernel_rfl) (by kernel_rfl) (by kernel_rfl) (fun _ _ _ h => h) (Or.inl ⟨by rfl, ?_⟩) (by assumption) ?_
            rotate_left
            · (intro w hSw; (try dsimp only at hSw); (try simp only [List.getElem_toArray, List.getElem_cons_zero, List.getElem_cons_succ]); go_simp; (try with_reducible rfl))
            (try simp only [Act.put, List.setIfInBounds_toArray, List.set_cons_zero, List.set_cons_succ, List.getElem_toArray, List.getElem_cons_zero, List.getElem_cons_succ])
            refine wpAnyH_take (i := 12) (v := ?_) rfl (by kernel_rfl) (by kernel_rfl) (by kernel_rfl) (fun _ _ _ h => h) (Or.inl ⟨by rfl, ?_⟩) (by assumption) ?_
            rotate_left
            · (intro w hSw; (try dsimp only at hSw); (try simp only [List.getElem_toArray, List.getElem_cons_zero, List.getElem_cons_succ]); go_simp; (try with_reducible rfl))
            (try simp only [Act.put, List.setIfInBounds_toArray, List.set_cons_zero, List.set_cons_succ, List.getElem_toArray, List.getElem_cons_zero, List.getElem_cons_succ])
            refine wpAnyH_take (i := 13) (v := ?_) rfl (by kernel_rfl) (by kernel_rfl) (by kernel_rfl) (fun _ _ _ h => h) (Or.inl ⟨by rfl, ?_⟩) (by assumption) ?_
            rotate_left
            · (intro w hSw; (try dsimp only at hSw); (try simp only [List.getElem_toArray, List.getElem_cons_zero, List.getElem_cons_succ]); go_simp; (try with_reducible rfl))
            (try simp only [Act.put, List.setIfInBounds_toArray, List.set_cons_zero, List.set_cons_succ, List.getElem_toArray, List.getElem_cons_zero, List.getElem_cons_succ])
            refine wpAnyH_take (i := 14) (v := ?_) rfl (by kernel_rfl) (by kernel_rfl) (by kernel_rfl) (fun _ _ _ h => h) (Or.inl ⟨by rfl, ?_⟩) (by assumption) ?_
            rotate_left
            · (intro w hSw; (try dsimp only at hSw); (try simp only [List.getElem_toArray, List.getElem_cons_zero, List.getElem_cons_succ]); go_simp; (try with_reducible rfl))
            (try simp only [Act.put, List.setIfInBounds_toArray, List.set_cons_zero, List.set_cons_succ, List.getElem_toArray, List.getElem_cons_zero, List.getElem_cons_succ])
            refine wpAnyH_take (i := 15) (v := ?_) rfl (by kernel_rfl) (by kernel_rfl) (by kernel_rfl) (fun _ _ _ h => h) (Or.inl ⟨by rfl, ?_⟩) (by assumption) ?_
            rotate_left
            · (intro w hSw; (try dsimp only at hSw); (try simp only [List.getElem_toArray, List.getElem_cons_zero, List.getElem_cons_succ]); go_simp; (try with_reducible rfl))
            (try simp only [Act.put, List.setIfInBounds_toArray, List.set_cons_zero, List.set_cons_succ, List.getElem_toArray, List.getElem_cons_zero, List.getElem_cons_succ])
            refine wpAnyH_take (i := 16) (v := ?_) rfl (by kernel_rfl) (by kernel_rfl) (by kernel_rfl) (fun _ _ _ h => h) (Or.inl ⟨by rfl, ?_⟩) (by assumption) ?_
            rotate_left
            · (intro w hSw; (try dsimp only at hSw); (try simp only [List.getElem_toArray, List.getElem_cons_zero, List.getElem_cons_succ]); go_simp; (try with_reducible rfl))
            (try simp only [Act.put, List.setIfInBounds_toArray, List.set_cons_zero, List.set_cons_succ, List.getElem_toArray, List.getElem_cons_zero, List.getElem_cons_succ])
            refine wpAnyH_take (i := 17) (v := ?_) rfl (by kernel_rfl) (by kernel_rfl) (by kernel_rfl) (fun _ _ _ h => h) (Or.inl ⟨by rfl, ?_⟩) (by assumption) ?_
            rotate_left
            · (intro w hSw; (try dsimp only at hSw); (try simp only [List.getElem_toArray, List.getElem_cons_zero, List.getElem_cons_succ]); go_simp; (try with_reducible rfl))
            (try simp only [Act.put, List.setIfInBounds_toArray, List.set_cons_zero, List.set_cons_succ, List.getElem_toArray, List.getElem_cons_zero, List.getElem_cons_succ])
            refine wpAnyH_ready (rs := [10, 18]) (by kernel_rfl) (by simp) ?_
            refine AllReadyH.cons (i := 10) rfl (fun K hK => ?_) (AllReadyH.cons (i := 18) rfl (fun K hK => ?_) AllReadyH.nil)
            · (try dsimp only [List.getElem_toArray, List.getElem_cons_zero, List.getElem_cons_succ])
              go_simp
              refine (c1 _).mono ?_
              rintro e w1 ⟨rfl, hw1⟩
              go_wp2_with (fail)
              refine hK.out _ _ ?_ (fun hHeld => ?_)
              · (try dsimp only)
                first | exact ⟨held_below (W := A) (by repeat (first | (with_reducible exact Below.refl _ _) | (with_reducible refine Below.setCell ?_ ?_ _) | (with_reducible refine Below.drew ?_) | (with_reducible refine Below.alloc ?_ ?_ _) | (with_reducible refine Below.trans ?_ (Below.mono hw1 ?_)) | (with_reducible exact hw1.size) | omega | (simp <;> omega) | (simp <;> (have s := hw1.size; omega)) | (have s0 := hw1.size; (try simp at s0); (try simp); omega))) yl, held_below (W := A) (by repeat (first | (with_reducible exact Below.refl _ _) | (with_reducible refine Below.setCell ?_ ?_ _) | (with_reducible refine Below.drew ?_) | (with_reducible refine Below.alloc ?_ ?_ _) | (with_reducible refine Below.trans ?_ (Below.mono hw1 ?_)) | (with_reducible exact hw1.size) | omega | (simp <;> omega) | (simp <;> (have s := hw1.size; omega)) | (have s0 := hw1.size; (try simp at s0); (try simp); omega))) yp, held_below (W := A) (by repeat (first | (with_reducible exact Below.refl _ _) | (with_reducible refine Below.setCell ?_ ?_ _) | (with_reducible refine Below.drew ?_) | (with_reducible refine Below.alloc ?_ ?_ _) | (with_reducible refine Below.trans ?_ (Below.mono hw1 ?_)) | (with_reducible exact hw1.size) | omega | (simp <;> omega) | (simp <;> (have s := hw1.size; omega)) | (have s0 := hw1.size; (try simp at s0); (try simp); omega))) r0, held_below (W := A) (by repeat (first | (with_reducible exact Below.refl _ _) | (with_reducible refine Below.setCell ?_ ?_ _) | (with_reducible refine Below.drew ?_) | (with_reducible refine Below.alloc ?_ ?_ _) | (with_reducible refine Below.trans ?_ (Below.mono hw1 ?_)) | (with_reducible exact hw1.size) | omega | (simp <;> omega) | (simp <;> (have s := hw1.size; omega)) | (have s0 := hw1.size; (try simp at s0); (try simp); omega))) r1, held_below (W := A) (by repeat (first | (with_reducible exact Below.refl _ _) | (with_reducible refine Below.setCell ?_ ?_ _) | (with_reducible refine Below.drew ?_) | (with_reducible refine Below.alloc ?_ ?_ _) | (with_reducible refine Below.trans ?_ (Below.mono hw1 ?_)) | (with_reducible exact hw1.size) | omega | (simp <;> omega) | (simp <;> (have s := hw1.size; omega)) | (have s0 := hw1.size; (try simp at s0); (try simp); omega))) r2⟩ | go_keep
              clear hK K
              (try simp only [Act.put, List.setIfInBounds_toArray, List.set_cons_zero, List.set_cons_succ])
              refine wpAnyH_ready (rs := [11, 18]) (by kernel_rfl) (by simp) ?_
              refine AllReadyH.cons (i := 11) rfl (fun K hK => ?_) (AllReadyH.cons (i := 18) rfl (fun K hK => ?_) AllReadyH.nil)
              · (try dsimp only [List.getElem_toArray, List.getElem_cons_zero, List.getElem_cons_succ])
                go_simp
                refine (c2 _).mono ?_
                rintro e w2 ⟨rfl, hw2⟩
                go_wp2_with (fail)
                refine hK.out _ _ ?_ (fun hHeld => ?_)
                · (try dsimp only)
                  first | exact ⟨held_below (W := A) (by repeat (first | (with_reducible exact Below.refl _ _) | (with_reducible refine Below.setCell ?_ ?_ _) | (with_reducible refine Below.drew ?_) | (with_reducible refine Below.alloc ?_ ?_ _) | (with_reducible refine Below.trans ?_ (Below.mono hw2 ?_)) | (with_reducible refine Below.trans ?_ (Below.mono hw1 ?_)) | (with_reducible exact hw2.size) | (with_reducible exact hw1.size) | omega | (simp <;> omega) | (simp <;> (have s := hw2.size; omega)) | (simp <;> (have s := hw1.size; omega)) | (have s0 := hw2.size; (try simp at s0); have s1 := hw1.size; (try simp at s1); (try simp); omega))) yl, held_below (W := A) (by repeat (first | (with_reducible exact Below.refl _ _) | (with_reducible refine Below.setCell ?_ ?_ _) | (with_reducible refine Below.drew ?_) | (with_reducible refine Below.alloc ?_ ?_ _) | (with_reducible refine Below.trans ?_ (Below.mono hw2 ?_)) | (with_reducible refine Below.trans ?_ (Below.mono hw1 ?_)) | (with_reducible exact hw2.size) | (with_reducible exact hw1.size) | omega | (simp <;> omega) | (simp <;> (have s := hw2.size; omega)) | (simp <;> (have s := hw1.size; omega)) | (have s0 := hw2.size; (try simp at s0); have s1 := hw1.size; (try simp at s1); (try simp); omega))) yp, held_below (W := A) (by repeat (first | (with_reducible exact Below.refl _ _) | (with_reducible refine Below.setCell ?_ ?_ _) | (with_reducible refine Below.drew ?_) | (with_reducible refine Below.alloc ?_ ?_ _) | (with_reducible refine Below.trans ?_ (Below.mono hw2 ?_)) | (with_reducible refine Below.trans ?_ (Below.mono hw1 ?_)) | (with_reducible exact hw2.size) | (with_reducible exact hw1.size) | omega | (simp <;> omega) | (simp <;> (have s := hw2.size; omega)) | (simp <;> (have s := hw1.size; omega)) | (have s0 := hw2.size; (try simp at s0); have s1 := hw1.size; (try simp at s1); (try simp); omega))) r0, held_below (W := A) (by repeat (first | (with_reducible exact Below.refl _ _) | (with_reducible refine Below.setCell ?_ ?_ _) | (with_reducible refine Below.drew ?_) | (with_reducible refine Below.alloc ?_ ?_ _) | (with_reducible refine Below.trans ?_ (Below.mono hw2 ?_)) | (with_reducible refine Below.trans ?_ (Below.mono hw1 ?_)) | (with_reducible exact hw2.size) | (with_reducible exact hw1.size) | omega | (simp <;> omega) | (simp <;> (have s := hw2.size; omega)) | (simp <;> (have s := hw1.size; omega)) | (have s0 := hw2.size; (try simp at s0); have s1 := hw1.size; (try simp at s1); (try simp); omega))) r1, held_below (W := A) (by repeat (first | (with_reducible exact Below.refl _ _) | (with_reducible refine Below.setCell ?_ ?_ _) | (with_reducible refine Below.drew ?_) | (with_reducible refine Below.alloc ?_ ?_ _) | (with_reducible refine Below.trans ?_ (Below.mono hw2 ?_)) | (with_reducible refine Below.trans ?_ (Below.mono hw1 ?_)) | (with_reducible exact hw2.size) | (with_reducible exact hw1.size) | omega | (simp <;> omega) | (simp <;> (have s := hw2.size; omega)) | (simp <;> (have s := hw1.size; omega)) | (have s0 := hw2.size; (try simp at s0); have s1 := hw1.size; (try simp at s1); (try simp); omega))) r2⟩ | go_keep
                clear hK K
                (try simp only [Act.put, List.setIfInBounds_toArray, List.set_cons_zero, List.set_cons_succ])
                refine wpAnyH_ready (rs := [18]) (by kernel_rfl) (by simp) ?_
                refine AllReadyH.cons (i := 18) rfl (fun K hK => ?_) AllReadyH.nil
                (try dsimp only [List.getElem_toArray, List.getElem_cons_zero, List.getElem_cons_succ])
                have zk : w2.cell? ⟨gl, j, none⟩ = some (.int .i64 (nm y)) := held_below (W := A) (by repeat (first | (with_reducible exact Below.refl _ _) | (with_reducible refine Below.setCell ?_ ?_ _) | (with_reducible refine Below.drew ?_) | (with_reducible refine Below.alloc ?_ ?_ _) | (with_reducible refine Below.trans ?_ (Below.mono hw2 ?_)) | (with_reducible refine Below.trans ?_ (Below.mono hw1 ?_)) | (with_reducible exact hw2.size) | (with_reducible exact hw1.size) | omega | (simp <;> omega) | (simp <;> (have s := hw2.size; omega)) | (simp <;> (have s := hw1.size; omega)) | (have s0 := hw2.size; (try simp at s0); have s1 := hw1.size; (try simp at s1); (try simp); omega))) yk
                go_simp
                refine hK.out _ _ ?_ (fun hHeld => ?_)
                · (try dsimp only)
                  first | exact ⟨held_below (W := A) (by repeat (first | (with_reducible exact Below.refl _ _) | (with_reducible refine Below.setCell ?_ ?_ _) | (with_reducible refine Below.drew ?_) | (with_reducible refine Below.alloc ?_ ?_ _) | (with_reducible refine Below.trans ?_ (Below.mono hw2 ?_)) | (with_reducible refine Below.trans ?_ (Below.mono hw1 ?_)) | (with_reducible exact hw2.size) | (with_reducible exact hw1.size) | omega | (simp <;> omega) | (simp <;> (have s := hw2.size; omega)) | (simp <;> (have s := hw1.size; omega)) | (have s0 := hw2.size; (try simp at s0); have s1 := hw1.size; (try simp at s1); (try simp); omega))) yl, held_below (W := A) (by repeat (first | (with_reducible exact Below.refl _ _) | (with_reducible refine Below.setCell ?_ ?_ _) | (with_reducible refine Below.drew ?_) | (with_reducible refine Below.alloc ?_ ?_ _) | (with_reducible refine Below.trans ?_ (Below.mono hw2 ?_)) | (with_reducible refine Below.trans ?_ (Below.mono hw1 ?_)) | (with_reducible exact hw2.size) | (with_reducible exact hw1.size) | omega | (simp <;> omega) | (simp <;> (have s := hw2.size; omega)) | (simp <;> (have s := hw1.size; omega)) | (have s0 := hw2.size; (try simp at s0); have s1 := hw1.size; (try simp at s1); (try simp); omega))) yp, held_below (W := A) (by repeat (first | (with_reducible exact Below.refl _ _) | (with_reducible refine Below.setCell ?_ ?_ _) | (with_reducible refine Below.drew ?_) | (with_reducible refine Below.alloc ?_ ?_ _) | (with_reducible refine Below.trans ?_ (Below.mono hw2 ?_)) | (with_reducible refine Below.trans ?_ (Below.mono hw1 ?_)) | (with_reducible exact hw2.size) | (with_reducible exact hw1.size) | omega | (simp <;> omega) | (simp <;> (have s := hw2.size; omega)) | (simp <;> (have s := hw1.size; omega)) | (have s0 := hw2.size; (try simp at s0); have s1 := hw1.size; (try simp at s1); (try simp); omega))) r0, held_below (W := A) (by repeat (first | (with_reducible exact Below.refl _ _) | (with_reducible refine Below.setCell ?_ ?_ _) | (with_reducible refine Below.drew ?_) | (with_reducible refine Below.alloc ?_ ?_ _) | (with_reducible refine Below.trans ?_ (Below.mono hw2 ?_)) | (with_reducible refine Below.trans ?_ (Below.mono hw1 ?_)) | (with_reducible exact hw2.size) | (with_reducible exact hw1.size) | omega | (simp <;> omega) | (simp <;> (have s := hw2.size; omega)) | (simp <;> (have s := hw1.size; omega)) | (have s0 := hw2.size; (try simp at s0); have s1 := hw1.size; (try simp at s1); (try simp); omega))) r1, held_below (W := A) (by repeat (first | (with_reducible exact Below.refl _ _) | (with_reducible refine Below.setCell ?_ ?_ _) | (with_reducible refine Below.drew ?_) | (with_reducible refine Below.alloc ?_ ?_ _) | (with_reducible refine Below.trans ?_ (Below.mono hw2 ?_)) | (with_reducible refine Below.trans ?_ (Below.mono hw1 ?_)) | (with_reducible exact hw2.size) | (with_reducible exact hw1.size) | omega | (simp <;> omega) | (simp <;> (have s := hw2.size; omega)) | (simp <;> (have s := hw1.size; omega)) | (have s0 := hw2.size; (try simp at s0); have s1 := hw1.size; (try simp at s1); (try simp); omega))) r2⟩ | go_keep
                clear hK K
                (try simp only [Act.put, List.setIfInBounds_toArray, List.set_cons_zero, List.set_cons_succ])
                refine wpAnyH_ready (rs := [19]) (by kernel_rfl) (by simp) ?_
                refine AllReadyH.cons (i := 19) rfl (fun K hK => ?_) AllReadyH.nil
                (try dsimp only [List.getElem_toArray, List.getElem_cons_zero, List.getElem_cons_succ])
                go_simp
                have bw : Below A.heap.size A w2 := by repeat (first | (with_reducible exact Below.refl _ _) | (with_reducible refine Below.setCell ?_ ?_ _) | (with_reducible refine Below.drew ?_) | (with_reducible refine Below.alloc ?_ ?_ _) | (with_reducible refine Below.trans ?_ (Below.mono hw2 ?_)) | (with_reducible refine Below.trans ?_ (Below.mono hw1 ?_)) | (with_reducible exact hw2.size) | (with_reducible exact hw1.size) | omega | (simp <;> omega) | (simp <;> (have s := hw2.size; omega)) | (simp <;> (have s := hw1.size; omega)) | (have s0 := hw2.size; (try simp at s0); have s1 := hw1.size; (try simp at s1); (try simp); omega))
                refine (c3 _ (HCA.out.pr.later bw)).mono ?_
                rintro e w3 ⟨rfl, hg3, hp3⟩
                have s0 := hg3.cell (held_below (W := A) bw yl) (by simp; exact hd3)
                have s1 := hg3.cell (held_below (W := A) bw yp) (by simp; exact hd3)
                have s2 := hg3.cell (held_below (W := A) bw r0) (by simp; exact hRg)
                have s3 := hg3.cell (held_below (W := A) bw r1) (by simp; exact hRg)
                have s4 := hg3.cell (held_below (W := A) bw r2) (by simp; exact hRg)
                have s5 := hg3.cell (held_below (W := A) bw yk) (by simp; exact hd1)
                have sf : ∀ i, w3.frozen? ⟨gl, i, none⟩ = false := fun i => (World.frozen?_of_block (a := ⟨gl, i, none⟩) (hg3.block gl (Nat.lt_of_lt_of_le lA bw.size) (by simp; exact hd1))).trans ((bw.frozen (p := ⟨gl, i, none⟩) lA).trans (fA i))
                have sl : gl < w3.heap.size := World.block_lt_of_cell? w3 _ s5
                go_wp2_with (fail)
                refine hK.out _ _ ?_ (fun hHeld => ?_)
                · exact ⟨s0, s1, s2, s3, s4⟩
                clear hK K
                (try simp only [Act.put, List.setIfInBounds_toArray, List.set_cons_zero, List.set_cons_succ])
                refine wpAnyH_take (i := 20) (v := ?_) rfl (by kernel_rfl) (by kernel_rfl) (by kernel_rfl) (fun _ _ _ h => h) (Or.inl ⟨by rfl, ?_⟩) (by assumption) ?_
                rotate_left
                · (intro w hSw; (try dsimp only at hSw); (try simp only [List.getElem_toArray, List.getElem_cons_zero, List.getElem_cons_succ]); go_simp; (try with_reducible rfl))
                (try simp only [Act.put, List.setIfInBounds_toArray, List.set_cons_zero, List.set_cons_succ, List.getElem_toArray, List.getElem_cons_zero, List.getElem_cons_succ])
                refine wpAnyH_ready (rs := [21]) (by kernel_rfl) (by simp) ?_
                refine AllReadyH.cons (i := 21) rfl (fun K hK => ?_) AllReadyH.nil
                (try dsimp only [List.getElem_toArray, List.getElem_cons_zero, List.getElem_cons_succ])
                go_simp
                refine hK.out _ _ ?_ (fun hHeld => ?_)
                · (try dsimp only)
                  exact ⟨(World.cell?_setCell_other _ _ _ _ (by simp <;> omega)).trans s0, (World.cell?_setCell_other _ _ _ _ (by simp <;> omega)).trans s1, (World.cell?_setCell_other _ _ _ _ (by simp <;> omega)).trans s2, (World.cell?_setCell_other _ _ _ _ (by simp <;> omega)).trans s3, (World.cell?_setCell_other _ _ _ _ (by simp <;> omega)).trans s4⟩
                clear hK K
                (try simp only [Act.put, List.setIfInBounds_toArray, List.set_cons_zero, List.set_cons_succ])
                refine wpAnyH_done (by kernel_rfl) ?_ _
                refine NoPanic.normal ?_
                have C3 := (HCA.out.later bw).touch hg3 hp3
                have C4 := C3.link j HPL.out v
                rw [HM0.out] at C4
                have Gp := grown_setCell w3 ⟨gl, j, none⟩ (.int .i64 (nm v))
                have M4 := ((MA.out.later bw).far hg3 (by simp; exact hd3) (by simp; exact he1)).far Gp (by simp; exact hd5) (by simp; exact he2)
                have Q4 : Hid (∀ (i : Nat) (x : Bool), P[i]? = some x → (w3.setCell ⟨gl, j, none⟩ (.int .i64 (nm v))).cell? ⟨pb, i, none⟩ = some (pv x)) := Lib.hid (fun i x hx => Gp.cell (hg3.cell (held_below (W := A) bw (QA.out i x hx)) (by simp; exact n2)) (by simp; exact n1))
                have hmA : m ≤ A.heap.size := Nat.le_of_lt (Nat.lt_of_le_of_lt HCA.out.mb HCA.out.lb)
                have b3 := (HBA.out.grown (grown_ofB (row := none) bw) (.inl rfl)).grown hg3 (.inr (.inr (.inl rfl)))
                have b4 := Lib.hid (b3.grown Gp (.inr (.inl rfl)))
                have HC4 := Lib.hid C4
                have HM4 := Lib.hid M4
                clear C3 C4 Gp M4 hg3 hp3 b3 hHeld s0 s1 s2 s3 s4 s5 sf sl zk yl yp yk r0 r1 r2
                go_wp2
                exact ⟨⟨j + 1, by omega, by go_num, HC4, HM4, Q4, b4.out⟩, by simp [intOf]; omega⟩
              · (try dsimp only [List.getElem_toArray, List.getElem_cons_zero, List.getElem_cons_succ])
                have zk : w1.cell? ⟨gl, j, none⟩ = some (.int .i64 (nm y)) := held_below (W := A) (by repeat (first | (with_reducible exact Below.refl _ _) | (with_reducible refine Below.setCell ?_ ?_ _) | (with_reducible refine Below.drew ?_) | (with_reducible refine Below.alloc ?_ ?_ _) | (with_reducible refine Below.trans ?_ (Below.mono hw1 ?_)) | (with_reducible exact hw1.size) | omega | (simp <;> omega) | (simp <;> (have s := hw1.size; omega)) | (have s0 := hw1.size; (try simp at s0); (try simp); omega))) yk
                go_simp
                refine hK.out _ _ ?_ (fun hHeld => ?_)
                · (try dsimp only)
                  first | exact ⟨held_below (W := A) (by repeat (first | (with_reducible exact Below.refl _ _) | (with_reducible refine Below.setCell ?_ ?_ _) | (with_reducible refine Below.drew ?_) | (with_reducible refine Below.alloc ?_ ?_ _) | (with_reducible refine Below.trans ?_ (Below.mono hw1 ?_)) | (with_reducible exact hw1.size) | omega | (simp <;> omega) | (simp <;> (have s := hw1.size; omega)) | (have s0 := hw1.size; (try simp at s0); (try simp); omega))) yl, held_below (W := A) (by repeat (first | (with_reducible exact Below.refl _ _) | (with_reducible refine Below.setCell ?_ ?_ _) | (with_reducible refine Below.drew ?_) | (with_reducible refine Below.alloc ?_ ?_ _) | (with_reducible refine Below.trans ?_ (Below.mono hw1 ?_)) | (with_reducible exact hw1.size) | omega | (simp <;> omega) | (simp <;> (have s := hw1.size; omega)) | (have s0 := hw1.size; (try simp at s0); (try simp); omega))) yp, held_below (W := A) (by repeat (first | (with_reducible exact Below.refl _ _) | (with_reducible refine Below.setCell ?_ ?_ _) | (with_reducible refine Below.drew ?_) | (with_reducible refine Below.alloc ?_ ?_ _) | (with_reducible refine Below.trans ?_ (Below.mono hw1 ?_)) | (with_reducible exact hw1.size) | omega | (simp <;> omega) | (simp <;> (have s := hw1.size; omega)) | (have s0 := hw1.size; (try simp at s0); (try simp); omega))) r0, held_below (W := A) (by repeat (first | (with_reducible exact Below.refl _ _) | (with_reducible refine Below.setCell ?_ ?_ _) | (with_reducible refine Below.drew ?_) | (with_reducible refine Below.alloc ?_ ?_ _) | (with_reducible refine Below.trans ?_ (Below.mono hw1 ?_)) | (with_reducible exact hw1.size) | omega | (simp <;> omega) | (simp <;> (have s := hw1.size; omega)) | (have s0 := hw1.size; (try simp at s0); (try simp); omega))) r1, held_below (W := A) (by repeat (first | (with_reducible exact Below.refl _ _) | (with_reducible refine Below.setCell ?_ ?_ _) | (with_reducible refine Below.drew ?_) | (with_reducible refine Below.alloc ?_ ?_ _) | (with_reducible refine Below.trans ?_ (Below.mono hw1 ?_)) | (with_reducible exact hw1.size) | omega | (simp <;> omega) | (simp <;> (have s := hw1.size; omega)) | (have s0 := hw1.size; (try simp at s0); (try simp); omega))) r2⟩ | go_keep
                clear hK K
                (try simp only [Act.put, List.setIfInBounds_toArray, List.set_cons_zero, List.set_cons_succ])
                refine wpAnyH_ready (rs := [11]) (by kernel_rfl) (by simp) ?_
                refine AllReadyH.cons (i := 11) rfl (fun K hK => ?_) AllReadyH.nil
                (try dsimp only [List.getElem_toArray, List.getElem_cons_zero, List.getElem_cons_succ])
                go_simp
                refine (c2 _).mono ?_
                rintro e w2 ⟨rfl, hw2⟩
                go_wp2_with (fail)
                refine hK.out _ _ ?_ (fun hHeld => ?_)
                · (try dsimp only)
                  first | exact ⟨held_below (W := A) (by repeat (first | (with_reducible exact Below.refl _ _) | (with_reducible refine Below.setCell ?_ ?_ _) | (with_reducible refine Below.drew ?_) | (with_reducible refine Below.alloc ?_ ?_ _) | (with_reducible refine Below.trans ?_ (Below.mono hw2 ?_)) | (with_reducible refine Below.trans ?_ (Below.mono hw1 ?_)) | (with_reducible exact hw2.size) | (with_reducible exact hw1.size) | omega | (simp <;> omega) | (simp <;> (have s := hw2.size; omega)) | (simp <;> (have s := hw1.size; omega)) | (have s0 := hw2.size; (try simp at s0); have s1 := hw1.size; (try simp at s1); (try simp); omega))) yl, held_below (W := A) (by repeat (first | (with_reducible exact Below.refl _ _) | (with_reducible refine Below.setCell ?_ ?_ _) | (with_reducible refine Below.drew ?_) | (with_reducible refine Below.alloc ?_ ?_ _) | (with_reducible refine Below.trans ?_ (Below.mono hw2 ?_)) | (with_reducible refine Below.trans ?_ (Below.mono hw1 ?_)) | (with_reducible exact hw2.size) | (with_reducible exact hw1.size) | omega | (simp <;> omega) | (simp <;> (have s := hw2.size; omega)) | (simp <;> (have s := hw1.size; omega)) | (have s0 := hw2.size; (try simp at s0); have s1 := hw1.size; (try simp at s1); (try simp); omega))) yp, held_below (W := A) (by repeat (first | (with_reducible exact Below.refl _ _) | (with_reducible refine Below.setCell ?_ ?_ _) | (with_reducible refine Below.drew ?_) | (with_reducible refine Below.alloc ?_ ?_ _) | (with_reducible refine Below.trans ?_ (Below.mono hw2 ?_)) | (with_reducible refine Below.trans ?_ (Below.mono hw1 ?_)) | (with_reducible exact hw2.size) | (with_reducible exact hw1.size) | omega | (simp <;> omega) | (simp <;> (have s := hw2.size; omega)) | (simp <;> (have s := hw1.size; omega)) | (have s0 := hw2.size; (try simp at s0); have s1 := hw1.size; (try simp at s1); (try simp); omega))) r0, held_below (W := A) (by repeat (first | (with_reducible exact Below.refl _ _) | (with_reducible refine Below.setCell ?_ ?_ _) | (with_reducible refine Below.drew ?_) | (with_reducible refine Below.alloc ?_ ?_ _) | (with_reducible refine Below.trans ?_ (Below.mono hw2 ?_)) | (with_reducible refine Below.trans ?_ (Below.mono hw1 ?_)) | (with_reducible exact hw2.size) | (with_reducible exact hw1.size) | omega | (simp <;> omega) | (simp <;> (have s := hw2.size; omega)) | (simp <;> (have s := hw1.size; omega)) | (have s0 := hw2.size; (try simp at s0); have s1 := hw1.size; (try simp at s1); (try simp); omega))) r1, held_below (W := A) (by repeat (first | (with_reducible exact Below.refl _ _) | (with_reducible refine Below.setCell ?_ ?_ _) | (with_reducible refine Below.drew ?_) | (with_reducible refine Below.alloc ?_ ?_ _) | (with_reducible refine Below.trans ?_ (Below.mono hw2 ?_)) | (with_reducible refine Below.trans ?_ (Below.mono hw1 ?_)) | (with_reducible exact hw2.size) | (with_reducible exact hw1.size) | omega | (simp <;> omega) | (simp <;> (have s := hw2.size; omega)) | (simp <;> (have s := hw1.size; omega)) | (have s0 := hw2.size; (try simp at s0); have s1 := hw1.size; (try simp at s1); (try simp); omega))) r2⟩ | go_keep
                clear hK K
                (try simp only [Act.put, List.setIfInBounds_toArray, List.set_cons_zero, List.set_cons_succ])
                refine wpAnyH_ready (rs := [19]) (by kernel_rfl) (by simp) ?_
                refine AllReadyH.cons (i := 19) rfl (fun K hK => ?_) AllReadyH.nil
                (try dsimp only [List.getElem_toArray, List.getElem_cons_zero, List.getElem_cons_succ])
                go_simp
                have bw : Below A.heap.size A w2 := by repeat (first | (with_reducible exact Below.refl _ _) | (with_reducible refine Below.setCell ?_ ?_ _) | (with_reducible refine Below.drew ?_) | (with_reducible refine Below.alloc ?_ ?_ _) | (with_reducible refine Below.trans ?_ (Below.mono hw2 ?_)) | (with_reducible refine Below.trans ?_ (Below.mono hw1 ?_)) | (with_reducible exact hw2.size) | (with_reducible exact hw1.size) | omega | (simp <;> omega) | (simp <;> (have s := hw2.size; omega)) | (simp <;> (have s := hw1.size; omega)) | (have s0 := hw2.size; (try simp at s0); have s1 := hw1.size; (try simp at s1); (try simp); omega))
                refine (c3 _ (HCA.out.pr.later bw)).mono ?_
                rintro e w3 ⟨rfl, hg3, hp3⟩
                have s0 := hg3.cell (held_below (W := A) bw yl) (by simp; exact hd3)
                have s1 := hg3.cell (held_below (W := A) bw yp) (by simp; exact hd3)
                have s2 := hg3.cell (held_below (W := A) bw r0) (by simp; exact hRg)
                have s3 := hg3.cell (held_below (W := A) bw r1) (by simp; exact hRg)
                have s4 := hg3.cell (held_below (W := A) bw r2) (by simp; exact hRg)
                have s5 := hg3.cell (held_below (W := A) bw yk) (by simp; exact hd1)
                have sf : ∀ i, w3.frozen? ⟨gl, i, none⟩ = false := fun i => (World.frozen?_of_block (a := ⟨gl, i, none⟩) (hg3.block gl (Nat.lt_of_lt_of_le lA bw.size) (by simp; exact hd1))).trans ((bw.frozen (p := ⟨gl, i, none⟩) lA).trans (fA i))
                have sl : gl < w3.heap.size := World.block_lt_of_cell? w3 _ s5
                go_wp2_with (fail)
                refine hK.out _ _ ?_ (fun hHeld => ?_)
                · exact ⟨s0, s1, s2, s3, s4⟩
                clear hK K
                (try simp only [Act.put, List.setIfInBounds_toArray, List.set_cons_zero, List.set_cons_succ])
                refine wpAnyH_take (i := 20) (v := ?_) rfl (by kernel_rfl) (by kernel_rfl) (by kernel_rfl) (fun _ _ _ h => h) (Or.inl ⟨by rfl, ?_⟩) (by assumption) ?_
                rotate_left
                · (intro w hSw; (try dsimp only at hSw); (try simp only [List.getElem_toArray, List.getElem_cons_zero, List.getElem_cons_succ]); go_simp; (try with_reducible rfl))
                (try simp only [Act.put, List.setIfInBounds_toArray, List.set_cons_zero, List.set_cons_succ, List.getElem_toArray, List.getElem_cons_zero, List.getElem_cons_succ])
                refine wpAnyH_ready (rs := [21]) (by kernel_rfl) (by simp) ?_
                refine AllReadyH.cons (i := 21) rfl (fun K hK => ?_) AllReadyH.nil
                (try dsimp only [List.getElem_toArray, List.getElem_cons_zero, List.getElem_cons_succ])
                go_simp
                refine hK.out _ _ ?_ (fun hHeld => ?_)
                · (try dsimp only)
                  exact ⟨(World.cell?_setCell_other _ _ _ _ (by simp <;> omega)).trans s0, (World.cell?_setCell_other _ _ _ _ (by simp <;> omega)).trans s1, (World.cell?_setCell_other _ _ _ _ (by simp <;> omega)).trans s2, (World.cell?_setCell_other _ _ _ _ (by simp <;> omega)).trans s3, (World.cell?_setCell_other _ _ _ _ (by simp <;> omega)).trans s4⟩
                clear hK K
                (try simp only [Act.put, List.setIfInBounds_toArray, List.set_cons_zero, List.set_cons_succ])
                refine wpAnyH_done (by kernel_rfl) ?_ _
                refine NoPanic.normal ?_
                have C3 := (HCA.out.later bw).touch hg3 hp3
                have C4 := C3.link j HPL.out v
                rw [HM0.out] at C4
                have Gp := grown_setCell w3 ⟨gl, j, none⟩ (.int .i64 (nm v))
                have M4 := ((MA.out.later bw).far hg3 (by simp; exact hd3) (by simp; exact he1)).far Gp (by simp; exact hd5) (by simp; exact he2)
                have Q4 : Hid (∀ (i : Nat) (x : Bool), P[i]? = some x → (w3.setCell ⟨gl, j, none⟩ (.int .i64 (nm v))).cell? ⟨pb, i, none⟩ = some (pv x)) := Lib.hid (fun i x hx => Gp.cell (hg3.cell (held_below (W := A) bw (QA.out i x hx)) (by simp; exact n2)) (by simp; exact n1))
                have hmA : m ≤ A.heap.size := Nat.le_of_lt (Nat.lt_of_le_of_lt HCA.out.mb HCA.out.lb)
                have b3 := (HBA.out.grown (grown_ofB (row := none) bw) (.inl rfl)).grown hg3 (.inr (.inr (.inl rfl)))
                have b4 := Lib.hid (b3.grown Gp (.inr (.inl rfl)))
                have HC4 := Lib.hid C4
                have HM4 := Lib.hid M4
                clear C3 C4 Gp M4 hg3 hp3 b3 hHeld s0 s1 s2 s3 s4 s5 sf sl zk yl yp yk r0 r1 r2
                go_wp2
                exact ⟨⟨j + 1, by omega, by go_num, HC4, HM4, Q4, b4.out⟩, by simp [intOf]; omega⟩
            · (try dsimp only [List.getElem_toArray, List.getElem_cons_zero, List.getElem_cons_succ])
              have zk : A.drew.cell? ⟨gl, j, none⟩ = some (.int .i64 (nm y)) := held_below (W := A) (by repeat (first | (with_reducible exact Below.refl _ _) | (with_reducible refine Below.setCell ?_ ?_ _) | (with_reducible refine Below.drew ?_) | (with_reducible refine Below.alloc ?_ ?_ _) | omega | (simp <;> omega))) yk
              go_simp
              refine hK.out _ _ ?_ (fun hHeld => ?_)
              · (try dsimp only)
                first | exact ⟨held_below (W := A) (by repeat (first | (with_reducible exact Below.refl _ _) | (with_reducible refine Below.setCell ?_ ?_ _) | (with_reducible refine Below.drew ?_) | (with_reducible refine Below.alloc ?_ ?_ _) | omega | (simp <;> omega))) yl, held_below (W := A) (by repeat (first | (with_reducible exact Below.refl _ _) | (with_reducible refine Below.setCell ?_ ?_ _) | (with_reducible refine Below.drew ?_) | (with_reducible refine Below.alloc ?_ ?_ _) | omega | (simp <;> omega))) yp, held_below (W := A) (by repeat (first | (with_reducible exact Below.refl _ _) | (with_reducible refine Below.setCell ?_ ?_ _) | (with_reducible refine Below.drew ?_) | (with_reducible refine Below.alloc ?_ ?_ _) | omega | (simp <;> omega))) r0, held_below (W := A) (by repeat (first | (with_reducible exact Below.refl _ _) | (with_reducible refine Below.setCell ?_ ?_ _) | (with_reducible refine Below.drew ?_) | (with_reducible refine Below.alloc ?_ ?_ _) | omega | (simp <;> omega))) r1, held_below (W := A) (by repeat (first | (with_reducible exact Below.refl _ _) | (with_reducible refine Below.setCell ?_ ?_ _) | (with_reducible refine Below.drew ?_) | (with_reducible refine Below.alloc ?_ ?_ _) | omega | (simp <;> omega))) r2⟩ | go_keep
              clear hK K
              (try simp only [Act.put, List.setIfInBounds_toArray, List.set_cons_zero, List.set_cons_succ])
              refine wpAnyH_ready (rs := [10]) (by kernel_rfl) (by simp) ?_
              refine AllReadyH.cons (i := 10) rfl (fun K hK => ?_) AllReadyH.nil
              (try dsimp only [List.getElem_toArray, List.getElem_cons_zero, List.getElem_cons_succ])
              go_simp
              refine (c1 _).mono ?_
              rintro e w1 ⟨rfl, hw1⟩
              go_wp2_with (fail)
              refine hK.out _ _ ?_ (fun hHeld => ?_)
              · (try dsimp only)
                first | exact ⟨held_below (W := A) (by repeat (first | (with_reducible exact Below.refl _ _) | (with_reducible refine Below.setCell ?_ ?_ _) | (with_reducible refine Below.drew ?_) | (with_reducible refine Below.alloc ?_ ?_ _) | (with_reducible refine Below.trans ?_ (Below.mono hw1 ?_)) | (with_reducible exact hw1.size) | omega | (simp <;> omega) | (simp <;> (have s := hw1.size; omega)) | (have s0 := hw1.size; (try simp at s0); (try simp); omega))) yl, held_below (W := A) (by repeat (first | (with_reducible exact Below.refl _ _) | (with_reducible refine Below.setCell ?_ ?_ _) | (with_reducible refine Below.drew ?_) | (with_reducible refine Below.alloc ?_ ?_ _) | (with_reducible refine Below.trans ?_ (Below.mono hw1 ?_)) | (with_reducible exact hw1.size) | omega | (simp <;> omega) | (simp <;> (have s := hw1.size; omega)) | (have s0 := hw1.size; (try simp at s0); (try simp); omega))) yp, held_below (W := A) (by repeat (first | (with_reducible exact Below.refl _ _) | (with_reducible refine Below.setCell ?_ ?_ _) | (with_reducible refine Below.drew ?_) | (with_reducible refine Below.alloc ?_ ?_ _) | (with_reducible refine Below.trans ?_ (Below.mono hw1 ?_)) | (with_reducible exact hw1.size) | omega | (simp <;> omega) | (simp <;> (have s := hw1.size; omega)) | (have s0 := hw1.size; (try simp at s0); (try simp); omega))) r0, held_below (W := A) (by repeat (first | (with_reducible exact Below.refl _ _) | (with_reducible refine Below.setCell ?_ ?_ _) | (with_reducible refine Below.drew ?_) | (with_reducible refine Below.alloc ?_ ?_ _) | (with_reducible refine Below.trans ?_ (Below.mono hw1 ?_)) | (with_reducible exact hw1.size) | omega | (simp <;> omega) | (simp <;> (have s := hw1.size; omega)) | (have s0 := hw1.size; (try simp at s0); (try simp); omega))) r1, held_below (W := A) (by repeat (first | (with_reducible exact Below.refl _ _) | (with_reducible refine Below.setCell ?_ ?_ _) | (with_reducible refine Below.drew ?_) | (with_reducible refine Below.alloc ?_ ?_ _) | (with_reducible refine Below.trans ?_ (Below.mono hw1 ?_)) | (with_reducible exact hw1.size) | omega | (simp <;> omega) | (simp <;> (have s := hw1.size; omega)) | (have s0 := hw1.size; (try simp at s0); (try simp); omega))) r2⟩ | go_keep
              clear hK K
              (try simp only [Act.put, List.setIfInBounds_toArray, List.set_cons_zero, List.set_cons_succ])
              refine wpAnyH_ready (rs := [11]) (by kernel_rfl) (by simp) ?_
              refine AllReadyH.cons (i := 11) rfl (fun K hK => ?_) AllReadyH.nil
              (try dsimp only [List.getElem_toArray, List.getElem_cons_zero, List.getElem_cons_succ])
              go_simp
              refine (c2 _).mono ?_
              rintro e w2 ⟨rfl, hw2⟩
              go_wp2_with (fail)
              refine hK.out _ _ ?_ (fun hHeld => ?_)
              · (try dsimp only)
                first | exact ⟨held_below (W := A) (by repeat (first | (with_reducible exact Below.refl _ _) | (with_reducible refine Below.setCell ?_ ?_ _) | (with_reducible refine Below.drew ?_) | (with_reducible refine Below.alloc ?_ ?_ _) | (with_reducible refine Below.trans ?_ (Below.mono hw2 ?_)) | (with_reducible refine Below.trans ?_ (Below.mono hw1 ?_)) | (with_reducible exact hw2.size) | (with_reducible exact hw1.size) | omega | (simp <;> omega) | (simp <;> (have s := hw2.size; omega)) | (simp <;> (have s := hw1.size; omega)) | (have s0 := hw2.size; (try simp at s0); have s1 := hw1.size; (try simp at s1); (try simp); omega))) yl, held_below (W := A) (by repeat (first | (with_reducible exact Below.refl _ _) | (with_reducible refine Below.setCell ?_ ?_ _) | (with_reducible refine Below.drew ?_) | (with_reducible refine Below.alloc ?_ ?_ _) | (with_reducible refine Below.trans ?_ (Below.mono hw2 ?_)) | (with_reducible refine Below.trans ?_ (Below.mono hw1 ?_)) | (with_reducible exact hw2.size) | (with_reducible exact hw1.size) | omega | (simp <;> omega) | (simp <;> (have s := hw2.size; omega)) | (simp <;> (have s := hw1.size; omega)) | (have s0 := hw2.size; (try simp at s0); have s1 := hw1.size; (try simp at s1); (try simp); omega))) yp, held_below (W := A) (by repeat (first | (with_reducible exact Below.refl _ _) | (with_reducible refine Below.setCell ?_ ?_ _) | (with_reducible refine Below.drew ?_) | (with_reducible refine Below.alloc ?_ ?_ _) | (with_reducible refine Below.trans ?_ (Below.mono hw2 ?_)) | (with_reducible refine Below.trans ?_ (Below.mono hw1 ?_)) | (with_reducible exact hw2.size) | (with_reducible exact hw1.size) | omega | (simp <;> omega) | (simp <;> (have s := hw2.size; omega)) | (simp <;> (have s := hw1.size; omega)) | (have s0 := hw2.size; (try simp at s0); have s1 := hw1.size; (try simp at s1); (try simp); omega))) r0, held_below (W := A) (by repeat (first | (with_reducible exact Below.refl _ _) | (with_reducible refine Below.setCell ?_ ?_ _) | (with_reducible refine Below.drew ?_) | (with_reducible refine Below.alloc ?_ ?_ _) | (with_reducible refine Below.trans ?_ (Below.mono hw2 ?_)) | (with_reducible refine Below.trans ?_ (Below.mono hw1 ?_)) | (with_reducible exact hw2.size) | (with_reducible exact hw1.size) | omega | (simp <;> omega) | (simp <;> (have s := hw2.size; omega)) | (simp <;> (have s := hw1.size; omega)) | (have s0 := hw2.size; (try simp at s0); have s1 := hw1.size; (try simp at s1); (try simp); omega))) r1, held_below (W := A) (by repeat (first | (with_reducible exact Below.refl _ _) | (with_reducible refine Below.setCell ?_ ?_ _) | (with_reducible refine Below.drew ?_) | (with_reducible refine Below.alloc ?_ ?_ _) | (with_reducible refine Below.trans ?_ (Below.mono hw2 ?_)) | (with_reducible refine Below.trans ?_ (Below.mono hw1 ?_)) | (with_reducible exact hw2.size) | (with_reducible exact hw1.size) | omega | (simp <;> omega) | (simp <;> (have s := hw2.size; omega)) | (simp <;> (have s := hw1.size; omega)) | (have s0 := hw2.size; (try simp at s0); have s1 := hw1.size; (try simp at s1); (try simp); omega))) r2⟩ | go_keep
              clear hK K
              (try simp only [Act.put, List.setIfInBounds_toArray, List.set_cons_zero, List.set_cons_succ])
              refine wpAnyH_ready (rs := [19]) (by kernel_rfl) (by simp) ?_
              refine AllReadyH.cons (i := 19) rfl (fun K hK => ?_) AllReadyH.nil
              (try dsimp only [List.getElem_toArray, List.getElem_cons_zero, List.getElem_cons_succ])
              go_simp
              have bw : Below A.heap.size A w2 := by repeat (first | (with_reducible exact Below.refl _ _) | (with_reducible refine Below.setCell ?_ ?_ _) | (with_reducible refine Below.drew ?_) | (with_reducible refine Below.alloc ?_ ?_ _) | (with_reducible refine Below.trans ?_ (Below.mono hw2 ?_)) | (with_reducible refine Below.trans ?_ (Below.mono hw1 ?_)) | (with_reducible exact hw2.size) | (with_reducible exact hw1.size) | omega | (simp <;> omega) | (simp <;> (have s := hw2.size; omega)) | (simp <;> (have s := hw1.size; omega)) | (have s0 := hw2.size; (try simp at s0); have s1 := hw1.size; (try simp at s1); (try simp); omega))
              refine (c3 _ (HCA.out.pr.later bw)).mono ?_
              rintro e w3 ⟨rfl, hg3, hp3⟩
              have s0 := hg3.cell (held_below (W := A) bw yl) (by simp; exact hd3)
              have s1 := hg3.cell (held_below (W := A) bw yp) (by simp; exact hd3)
              have s2 := hg3.cell (held_below (W := A) bw r0) (by simp; exact hRg)
              have s3 := hg3.cell (held_below (W := A) bw r1) (by simp; exact hRg)
              have s4 := hg3.cell (held_below (W := A) bw r2) (by simp; exact hRg)
              have s5 := hg3.cell (held_below (W := A) bw yk) (by simp; exact hd1)
              have sf : ∀ i, w3.frozen? ⟨gl, i, none⟩ = false := fun i => (World.frozen?_of_block (a := ⟨gl, i, none⟩) (hg3.block gl (Nat.lt_of_lt_of_le lA bw.size) (by simp; exact hd1))).trans ((bw.frozen (p := ⟨gl, i, none⟩) lA).trans (fA i))
              have sl : gl < w3.heap.size := World.block_lt_of_cell? w3 _ s5
              go_wp2_with (fail)
              refine hK.out _ _ ?_ (fun hHeld => ?_)
              · exact ⟨s0, s1, s2, s3, s4⟩
              clear hK K
              (try simp only [Act.put, List.setIfInBounds_toArray, List.set_cons_zero, List.set_cons_succ])
              refine wpAnyH_take (i := 20) (v := ?_) rfl (by kernel_rfl) (by kernel_rfl) (by kernel_rfl) (fun _ _ _ h => h) (Or.inl ⟨by rfl, ?_⟩) (by assumption) ?_
              rotate_left
              · (intro w hSw; (try dsimp only at hSw); (try simp only [List.getElem_toArray, List.getElem_cons_zero, List.getElem_cons_succ]); go_simp; (try with_reducible rfl))
              (try simp only [Act.put, List.setIfInBounds_toArray, List.set_cons_zero, List.set_cons_succ, List.getElem_toArray, List.getElem_cons_zero, List.getElem_cons_succ])
              refine wpAnyH_ready (rs := [21]) (by kernel_rfl) (by simp) ?_
              refine AllReadyH.cons (i := 21) rfl (fun K hK => ?_) AllReadyH.nil
              (try dsimp only [List.getElem_toArray, List.getElem_cons_zero, List.getElem_cons_succ])
              go_simp
              refine hK.out _ _ ?_ (fun hHeld => ?_)
              · (try dsimp only)
                exact ⟨(World.cell?_setCell_other _ _ _ _ (by simp <;> omega)).trans s0, (World.cell?_setCell_other _ _ _ _ (by simp <;> omega)).trans s1, (World.cell?_setCell_other _ _ _ _ (by simp <;> omega)).trans s2, (World.cell?_setCell_other _ _ _ _ (by simp <;> omega)).trans s3, (World.cell?_setCell_other _ _ _ _ (by simp <;> omega)).trans s4⟩
              clear hK K
              (try simp only [Act.put, List.setIfInBounds_toArray, List.set_cons_zero, List.set_cons_succ])
              refine wpAnyH_done (by kernel_rfl) ?_ _
              refine NoPanic.normal ?_
              have C3 := (HCA.out.later bw).touch hg3 hp3
              have C4 := C3.link j HPL.out v
              rw [HM0.out] at C4
              have Gp := grown_setCell w3 ⟨gl, j, none⟩ (.int .i64 (nm v))
              have M4 := ((MA.out.later bw).far hg3 (by simp; exact hd3) (by simp; exact he1)).far Gp (by simp; exact hd5) (by simp; exact he2)
              have Q4 : Hid (∀ (i : Nat) (x : Bool), P[i]? = some x → (w3.setCell ⟨gl, j, none⟩ (.int .i64 (nm v))).cell? ⟨pb, i, none⟩ = some (pv x)) := Lib.hid (fun i x hx => Gp.cell (hg3.cell (held_below (W := A) bw (QA.out i x hx)) (by simp; exact n2)) (by simp; exact n1))
              have hmA : m ≤ A.heap.size := Nat.le_of_lt (Nat.lt_of_le_of_lt HCA.out.mb HCA.out.lb)
              have b3 := (HBA.out.grown (grown_ofB (row := none) bw) (.inl rfl)).grown hg3 (.inr (.inr (.inl rfl)))
              have b4 := Lib.hid (b3.grown Gp (.inr (.inl rfl)))
              have HC4 := Lib.hid C4
              have HM4 := Lib.hid M4
              clear C3 C4 Gp M4 hg3 hp3 b3 hHeld s0 s1 s2 s3 s4 s5 sf sl zk yl yp yk r0 r1 r2
              go_wp2
              exact ⟨⟨j + 1, by omega, by go_num, HC4, HM4, Q4, b4.out⟩, by simp [intOf]; omega⟩
          · obtain rfl : j = n := by omega
            have hCf := hC.out
            rw [show j = L.length from HLE.out.symm, mixQ_end HTL.out] at hCf
            rw [show L.length = j from HLE.out] at hCf
            have HKS : Hid (KS a b c j N wr m B gl gx gp gm kl kx km (act a b c (L, l) false)) := by
              rw [HAC.out]
              have := HSN.out
              rw [HAC.out] at this
              exact Lib.hid ⟨hCf, hM.out, this⟩
            rw [← HNX.out] at HKS
            clear hCf hC hM
            go_wp2
            exact ⟨⟨k + 1, by omega, by go_num, HKS, hPi, hbi⟩, by simp [intOf]; omega⟩
    · obtain rfl : k = P.length := by omega
      have hKf := hK.out
      rw [List.take_length] at hKf
      have HKf := Lib.hid hKf
      clear hK hKf
      go_wp2
      go_end0
      exact ⟨rfl, HKf.out, hb⟩
end Go.Proofs.YtilbhcjnkmeecaaGreat

/- Steps and runs, as the program makes them.
Conditions: those written at each theorem. -/
namespace Go.Proofs.YtilbhcjnkmeecaaGreat
set_option linter.unusedVariables false
set_option linter.unusedSimpArgs false
set_option maxRecDepth 1000000
open Go.RowKit
open Um Tm Cm Km

theorem alln_K {l : List Int} (h : AllN l) : AllK l := fun x hx => by
  obtain ⟨i, hi⟩ := List.getElem?_of_mem hx
  exact h i x hi
theorem allK_N {l : List Int} (h : AllK l) : AllN l := fun i x hx => h x (List.mem_of_getElem? hx)
theorem vk_ok {m n : Nat} {l : List Int} (h : vkR m n l 0 0) : n = m ∧ AllK l := by
  rcases h with ⟨h, -⟩ | ⟨-, -, h⟩ | ⟨-, h1, ⟨h2, -⟩ | ⟨-, h⟩⟩
  · exact absurd rfl h
  · simp at h
  · exact ⟨h1, alln_K h2⟩
  · simp at h
theorem St_of {a b c : Int} {n : Nat} {L : List Q} {ns l : List Int} (hr : numsR a b c L ns 0) (hv : vkR L.length n l 0 0) (hl : l.length = n * 3) : St a b c n L l := by
  obtain ⟨hfl, -, hS⟩ := numsR_smR hr
  obtain ⟨h1, h2⟩ := vk_ok hv
  exact ⟨fldR_FlK hfl, hS, h1.symm, hl, h2⟩
theorem St_nums {a b c : Int} {n : Nat} {L : List Q} {l : List Int} (h : St a b c n L l) : numsR a b c L (L.map nm) 0 ∧ vkR L.length n l 0 0 := by
  refine ⟨.inr ⟨.inr (.inr ⟨h.f.z, h.f.n, .inl ⟨fun i x hx => .inr (.inr ⟨(h.f.v i x hx).1, (h.f.v i x hx).2, rfl⟩), rfl⟩⟩), .inl ⟨.inl ⟨rfl, by rw [List.length_map], fun i x hi hx => ?_⟩, rfl⟩⟩, .inr (.inr ⟨rfl, h.e.symm, .inl ⟨allK_N h.k, rfl⟩⟩)⟩
  exact ⟨nm x, by rw [List.getElem?_map, hx]; rfl, numR_nm (h.s x (List.mem_of_getElem? hx))⟩
set_option maxHeartbeats 1600000 in
theorem step_any (a b c : Int) (n N : Nat) (w : World) (m B gl gx gp gm kl kx km : Nat) (s : List Q × List Int) (h : KS a b c n N w m B gl gx gp gm kl kx km s) (hN : (N : Int) = a * b * c) :
    Calls Tryz.prog 37 #[.pointer (some ⟨B, 0, none⟩)] w fun e w' => e = .returned (.tuple #[]) ∧ KS a b c n N w' m B gl gx gp gm kl kx km (stp a b c s) ∧ Kt3 gl gp gm w w' := by
  have l1 := h.co.li.lt
  have l2 := h.co.pr.lt
  have l3 := h.cm.mi.lt
  have lB := h.co.lb
  have hmB := h.co.mb
  have H := Lib.hid h
  have c1 := fun (W : World) (pb : Nat) (h : KS a b c n N W m B gl gx gp gm kl kx km s) (hP : ∀ (i : Nat) (x : Bool), [true, false, true][i]? = some x → W.cell? ⟨pb, i, none⟩ = some (pv x)) (n1 : pb ≠ gl) (n2 : pb ≠ gp) (n3 : pb ≠ gm) => do_any a b c n N W m B gl gx gp gm kl kx km pb 3 s [true, false, true] h hN hP (by simp) n1 n2 n3
  clear h hN
  go_enter Tryz.func37, Tryz.ntmps37
  go_wp2_with (fail)
  have bA : Below w.heap.size w (w.alloc (.cells #[.iface 61 (.agg #[]), .iface 69 (.agg #[]), .iface 61 (.agg #[])] 100)) := by repeat (first | (with_reducible exact Below.refl _ _) | (with_reducible refine Below.setCell ?_ ?_ _) | (with_reducible refine Below.drew ?_) | (with_reducible refine Below.alloc ?_ ?_ _) | omega | (simp <;> omega))
  refine (c1 _ w.heap.size ⟨H.out.co.later bA, H.out.cm.later bA, H.out.st⟩ (fun i x hx => ?_) (by omega) (by omega) (by omega)).mono ?_
  · match i, hx with
    | 0, hx => simp at hx; subst hx; simp [go_sem, pv]
    | 1, hx => simp at hx; subst hx; simp [go_sem, pv]
    | 2, hx => simp at hx; subst hx; simp [go_sem, pv]
    | i + 3, hx => simp at hx
  · rintro e w1 ⟨rfl, hk, hb⟩
    have HKs : Hid (KS a b c n N w1 m B gl gx gp gm kl kx km (stp a b c s)) := Lib.hid hk
    have hb2 := Lib.hid (((Kt3.refl w).grown (grown_ofB (row := none) bA) (.inl rfl)).trans hb)
    clear hk hb c1
    go_wp2
    go_end0
    exact ⟨rfl, HKs.out, hb2.out⟩
/-- what a run answers -/
def RetRun (a b c : Int) (n m : Nat) (s : List Q × List Int) (e : Ending) (w' : World) : Prop := ∃ g k gm km : Nat, e = .returned (.tuple #[.agg #[.int .i64 a, .int .i64 b, .int .i64 c, .slice (some ⟨g, 0, none⟩) n k], .slice (some ⟨gm, 0, none⟩) n km, .int .i64 0]) ∧ LBox w' g s.1 ∧ IBox w' gm s.2 ∧ m ≤ g ∧ m ≤ gm ∧ gm < g
/-- the error of a run's arguments -/
def rnR (r x q : Int) : Prop := (r ≠ 0 ∧ q = r) ∨ (r = 0 ∧ ¬ (0 ≤ x ∧ x ≤ 100) ∧ q = 1)
set_option maxHeartbeats 3200000 in
theorem run_bad (a b c r0 r x q : Int) (ao po : Option Addr) (cap pc n : Nat) (L : List Q) (ns l : List Int) (w : World) (h : LiesO w ao L) (hp : LiesOI w po l) (hl : l.length = n * 3) (hr : numsR a b c L ns r0) (hv : vkR L.length n l r0 r) (hq : rnR r x q) (hlen : L.length ≤ 1000000) : Calls Tryz.prog 20 #[.agg #[.int .i64 a, .int .i64 b, .int .i64 c, .slice ao L.length cap], .slice po n pc, .int .i64 x] w fun e w' => e = .returned (.tuple #[.agg #[.int .i64 0, .int .i64 0, .int .i64 0, .slice none 0 0], .slice none 0 0, .int .i64 q]) ∧ Below w.heap.size w w' := by
  have H := Lib.hid h
  have HP := Lib.hid hp
  rcases hq with ⟨h0, rfl⟩ | ⟨rfl, hx, rfl⟩
  · have c1 := fun (W : World) (h : LiesO W ao L) (h2 : LiesOI W po l) => start_bad a b c r0 q ao po cap pc n L ns l W h h2 hl hr hv h0 hlen
    have h0' : (q != 0) = true := by simpa using h0
    clear h hp hr hv h0 hl
    go_enter Tryz.func20, Tryz.ntmps20
    go_wp2_with ((with_reducible refine (c1 _ (H.out.later (by repeat (first | (with_reducible exact Below.refl _ _) | (with_reducible refine Below.setCell ?_ ?_ _) | (with_reducible refine Below.drew ?_) | (with_reducible refine Below.alloc ?_ ?_ _) | omega | (simp <;> omega)))) (HP.out.later (by repeat (first | (with_reducible exact Below.refl _ _) | (with_reducible refine Below.setCell ?_ ?_ _) | (with_reducible refine Below.drew ?_) | (with_reducible refine Below.alloc ?_ ?_ _) | omega | (simp <;> omega))))).mono ?_); clear c1; rintro e w1 ⟨rfl, hw1⟩; have hc1 := Tail.cells hw1; have s1 := hw1.size; simp at s1; have z1 : w.heap.size + 1 < w1.heap.size := (by omega); clear s1)
    refine bodyPost_ret (v := .tuple #[.agg #[.int .i64 0, .int .i64 0, .int .i64 0, .slice none 0 0], .slice none 0 0, .int .i64 q]) (by simp [results, Tryz.results20, go_sem, hc1, z1]) rfl ⟨rfl, ?_⟩
    repeat (first | (with_reducible exact Below.refl _ _) | (with_reducible refine Below.setCell ?_ ?_ _) | (with_reducible refine Below.drew ?_) | (with_reducible refine Below.alloc ?_ ?_ _) | (with_reducible refine Below.trans ?_ (Below.mono hw1 ?_)) | (with_reducible exact hw1.size) | omega | (simp <;> omega) | (simp <;> (have s := hw1.size; omega)) | (have s0 := hw1.size; (try simp at s0); (try simp); omega))
  · obtain rfl : r0 = 0 := by rcases hv with ⟨h1, h2⟩ | ⟨h1, -⟩ | ⟨h1, -⟩ <;> omega
    have hst := St_of hr hv hl
    have hn0 : 0 < n := by have := hst.f.n; have := hst.e; obtain ⟨-, -, p3, -⟩ := mul_rng hst.f.z.a1 hst.f.z.a4 hst.f.z.b1 hst.f.z.b4 hst.f.z.c1 hst.f.z.c4; omega
    obtain ⟨bl, off, rfl, h2⟩ := fld_some (numsR_smR hr).1 h
    obtain ⟨pb, po', rfl, hp2⟩ : ∃ pb o, po = some ⟨pb, o, none⟩ ∧ LiesI w pb o l := by
      rcases hp with rfl | ⟨pb, o, rfl, hp⟩
      · simp at hl; omega
      · exact ⟨pb, o, rfl, hp⟩
    obtain ⟨N, hN⟩ := Int.eq_ofNat_of_zero_le (show 0 ≤ a * b * c by obtain ⟨-, -, p3, -⟩ := mul_rng hst.f.z.a1 hst.f.z.a4 hst.f.z.b1 hst.f.z.b4 hst.f.z.c1 hst.f.z.c4; omega)
    have H2 := Lib.hid h2
    have HP2 := Lib.hid hp2
    have c1 := fun (W : World) (h : Lies W bl off L) (h2 : LiesI W pb po' l) => start_ok a b c bl off cap pb po' pc n N L ns l W h h2 hl hr hv hN.symm hst.e
    have c2 := fun W : World => pWithin_any x 0 100 W false (.inr ⟨hx, rfl⟩)
    clear h hp h2 hp2 hr hv hl hst hN hx H HP
    go_enter Tryz.func20, Tryz.ntmps20
    go_wp2_with (first | ((with_reducible refine (c1 _ (H2.out.later (by repeat (first | (with_reducible exact Below.refl _ _) | (with_reducible refine Below.setCell ?_ ?_ _) | (with_reducible refine Below.drew ?_) | (with_reducible refine Below.alloc ?_ ?_ _) | omega | (simp <;> omega)))) (HP2.out.later (by repeat (first | (with_reducible exact Below.refl _ _) | (with_reducible refine Below.setCell ?_ ?_ _) | (with_reducible refine Below.drew ?_) | (with_reducible refine Below.alloc ?_ ?_ _) | omega | (simp <;> omega))))).mono ?_); clear c1; rintro e w1 ⟨⟨B, gl, gx, gp, gm, kl, kx, km, rfl, -, -⟩, hw1⟩; have hc1 := Tail.cells hw1; have s1 := hw1.size; simp at s1; have z1 : w.heap.size + 1 < w1.heap.size := (by omega); clear s1) | ((with_reducible refine (c2 _).mono ?_); clear c2; rintro e w2 ⟨rfl, rfl⟩))
    refine bodyPost_ret (v := .tuple #[.agg #[.int .i64 0, .int .i64 0, .int .i64 0, .slice none 0 0], .slice none 0 0, .int .i64 1]) (by simp [results, Tryz.results20, go_sem, hc1, z1]) rfl ⟨rfl, ?_⟩
    repeat (first | (with_reducible exact Below.refl _ _) | (with_reducible refine Below.setCell ?_ ?_ _) | (with_reducible refine Below.drew ?_) | (with_reducible refine Below.alloc ?_ ?_ _) | (with_reducible refine Below.trans ?_ (Below.mono hw1 ?_)) | (with_reducible exact hw1.size) | omega | (simp <;> omega) | (simp <;> (have s := hw1.size; omega)) | (have s0 := hw1.size; (try simp at s0); (try simp); omega))
set_option maxHeartbeats 6400000 in
theorem run_ok (a b c : Int) (bl off cap pb po pc n N x : Nat) (L : List Q) (l : List Int) (w : World) (h : Lies w bl off L) (hp : LiesI w pb po l) (hst : St a b c n L l) (hN : (N : Int) = a * b * c) (hx : x ≤ 100) : Calls Tryz.prog 20 #[.agg #[.int .i64 a, .int .i64 b, .int .i64 c, .slice (some ⟨bl, off, none⟩) L.length cap], .slice (some ⟨pb, po, none⟩) n pc, .int .i64 x] w fun e w' => RetRun a b c n w.heap.size (rn a b c (L, l) x) e w' ∧ Below w.heap.size w w' := by
  have H2 := Lib.hid h
  have HP2 := Lib.hid hp
  obtain ⟨hr, hv⟩ := St_nums hst
  have HST := Lib.hid hst
  have c1 := fun (W : World) (h : Lies W bl off L) (h2 : LiesI W pb po l) => start_ok a b c bl off cap pb po pc n N L _ l W h h2 hst.m hr hv hN hst.e
  have c2 := fun W : World => pWithin_any (x : Int) 0 100 W true (.inl ⟨by omega, by omega, rfl⟩)
  have HNN := Lib.hid hN
  have h48 : n ≤ 48 := by have := hst.f.n; have := hst.e; have := hst.f.z.p; omega
  clear h hp hr hv hst hN
  go_enter Tryz.func20, Tryz.ntmps20
  go_wp2_with (fail)
  refine (c1 _ (H2.out.later (by repeat (first | (with_reducible exact Below.refl _ _) | (with_reducible refine Below.setCell ?_ ?_ _) | (with_reducible refine Below.drew ?_) | (with_reducible refine Below.alloc ?_ ?_ _) | omega | (simp <;> omega)))) (HP2.out.later (by repeat (first | (with_reducible exact Below.refl _ _) | (with_reducible refine Below.setCell ?_ ?_ _) | (with_reducible refine Below.drew ?_) | (with_reducible refine Below.alloc ?_ ?_ _) | omega | (simp <;> omega))))).mono ?_
  clear c1
  rintro e w1 ⟨⟨B, gl, gx, gp, gm, kl, kx, km, rfl, hCO, hCM⟩, hw1⟩
  have R1 : FW w1 (w.heap.size + 1) 0 0 0 (.slice none 0 0) := by
    have r0 : FW ((w.alloc (.cells #[.int .i64 a, .int .i64 b, .int .i64 c, .slice (some ⟨bl, off, none⟩) L.length cap] 25)).alloc (.cells #[.int .i64 0, .int .i64 0, .int .i64 0, .slice none 0 0] 25)) (w.heap.size + 1) 0 0 0 (.slice none 0 0) := ⟨by simp [go_sem], by simp [go_sem], by simp [go_sem], by simp [go_sem], fun j => by simp [go_sem], by simp⟩
    exact r0.later hw1
  have b1 : Below w.heap.size w w1 := by repeat (first | (with_reducible exact Below.refl _ _) | (with_reducible refine Below.setCell ?_ ?_ _) | (with_reducible refine Below.drew ?_) | (with_reducible refine Below.alloc ?_ ?_ _) | (with_reducible refine Below.trans ?_ (Below.mono hw1 ?_)) | (with_reducible exact hw1.size) | omega | (simp <;> omega) | (simp <;> (have s := hw1.size; omega)) | (have s0 := hw1.size; (try simp at s0); (try simp); omega))
  have hm2 : ((w.alloc (.cells #[.int .i64 a, .int .i64 b, .int .i64 c, .slice (some ⟨bl, off, none⟩) L.length cap] 25)).alloc (.cells #[.int .i64 0, .int .i64 0, .int .i64 0, .slice none 0 0] 25)).heap.size = w.heap.size + 2 := by simp
  rw [hm2] at hCO hCM
  have HK1 : Hid (KS a b c n N w1 (w.heap.size + 2) B gl gx gp gm kl kx km (rn a b c (L, l) 0)) := Lib.hid ⟨hCO, hCM, HST.out⟩
  have HR1 := Lib.hid R1
  have HB1 := Lib.hid b1
  clear hCO hCM hw1 R1 b1 hm2
  go_wp2_with ((with_reducible refine (c2 _).mono ?_); clear c2; rintro e w2 ⟨rfl, rfl⟩)
  go_loopw [26] (fun q wr => ∃ k : Nat, k ≤ x ∧ q = .int .i64 k ∧ Hid (KS a b c n N wr (w.heap.size + 2) B gl gx gp gm kl kx km (rn a b c (L, l) k)) ∧ Hid (FW wr (w.heap.size + 1) 0 0 0 (.slice none 0 0)) ∧ Below w.heap.size w wr) (fun q _ => x - (intOf q).toNat)
  case atStart => exact ⟨0, by omega, rfl, HK1, HR1, HB1.out⟩
  case round =>
    obtain ⟨k, hk, rfl, hK, hR, hb⟩ := hrel
    clear HK1 HR1 HB1
    by_cases hlt : k < x
    · have i1 : (k : Int) < (x : Int) := by omega
      have c3 := step_any a b c n N _ _ B gl gx gp gm kl kx km _ hK.out HNN.out
      go_wp2_with (fail)
      refine c3.mono ?_
      clear c3
      rintro e w3 ⟨rfl, hk3, hq3⟩
      have hb3 : Below (w.heap.size + 2) _ w3 := hq3.below (Nat.le_of_lt (Nat.lt_of_le_of_lt hK.out.co.mb hK.out.co.lb)) hK.out.co.ml hK.out.co.mp hK.out.cm.mm
      have HK3 : Hid (KS a b c n N w3 (w.heap.size + 2) B gl gx gp gm kl kx km (rn a b c (L, l) (k + 1))) := Lib.hid hk3
      have HR3 : Hid (FW w3 (w.heap.size + 1) 0 0 0 (.slice none 0 0)) := Lib.hid ⟨(hb3.cell (by show w.heap.size + 1 < w.heap.size + 2; omega)).trans hR.out.c0, (hb3.cell (by show w.heap.size + 1 < w.heap.size + 2; omega)).trans hR.out.c1, (hb3.cell (by show w.heap.size + 1 < w.heap.size + 2; omega)).trans hR.out.c2, (hb3.cell (by show w.heap.size + 1 < w.heap.size + 2; omega)).trans hR.out.c3, fun j => (hb3.frozen (p := ⟨w.heap.size + 1, j, none⟩) (by show w.heap.size + 1 < w.heap.size + 2; omega)).trans (hR.out.free j), Nat.lt_of_lt_of_le hR.out.lt hb3.size⟩
      have hb4 : Below w.heap.size w w3 := hb.trans (hb3.mono (by omega))
      clear hk3 hb3 hK hR
      go_wp2
      exact ⟨⟨k + 1, by omega, by go_num, HK3, HR3, hb4⟩, by simp [intOf]; omega⟩
    · obtain rfl : k = x := by omega
      have hst := HST.out.rn k
      have c4 := end_ok a b c n N _ _ B gl gx gp gm kl kx km _ _ hK.out.co hK.out.cm HST.out.f.z (by have := HST.out.f.n; have := HST.out.e; omega) h48 hst.s hst.e
      have hmi := hK.out.cm.mi
      have hmm := hK.out.cm.mm
      have hbs := hb.size
      have hK' := hmi
      have HMI := Lib.hid hmi
      clear hmi hK' hst
      go_wp2_with (fail)
      refine c4.mono ?_
      clear c4
      rintro e w4 ⟨⟨g, kg, rfl, hlb, hg⟩, hw4⟩
      obtain ⟨d0, d1, d2, d3, df, dl⟩ := hR.out.later hw4
      have hmi4 := HMI.out.later hw4
      have hgl := HMI.out.lt
      have b4 : Below w.heap.size w w4 := by repeat (first | (with_reducible exact Below.refl _ _) | (with_reducible refine Below.setCell ?_ ?_ _) | (with_reducible refine Below.drew ?_) | (with_reducible refine Below.alloc ?_ ?_ _) | (with_reducible refine Below.trans ?_ (Below.mono hw4 ?_)) | (with_reducible refine Below.trans ?_ (Below.mono hb ?_)) | (with_reducible exact hw4.size) | (with_reducible exact hb.size) | omega | (simp <;> omega) | (simp <;> (have s := hw4.size; omega)) | (simp <;> (have s := hb.size; omega)) | (have s0 := hw4.size; (try simp at s0); have s1 := hb.size; (try simp at s1); (try simp); omega))
      clear hw4 hK hR
      go_wp2
      have Gs := grown_setCells (w.heap.size + 1) [.int .i64 a, .int .i64 b, .int .i64 c, .slice (some ⟨g, 0, none⟩) n kg] 0 w4
      refine bodyPost_ret (v := .tuple #[.agg #[.int .i64 a, .int .i64 b, .int .i64 c, .slice (some ⟨g, 0, none⟩) n kg], .slice (some ⟨gm, 0, none⟩) n km, .int .i64 0]) (by simp [results, Tryz.results20, go_sem, d0, d1, d2, d3, dl]) rfl ⟨⟨g, kg, gm, km, rfl, ?_, ?_, by omega, by omega, by omega⟩, ?_⟩
      · exact hlb.grown Gs (by simp; omega)
      · exact hmi4.grown Gs (by simp; omega)
      · repeat (first | (with_reducible exact Below.refl _ _) | (with_reducible refine Below.setCell ?_ ?_ _) | (with_reducible refine Below.drew ?_) | (with_reducible refine Below.alloc ?_ ?_ _) | (with_reducible refine Below.trans ?_ (Below.mono b4 ?_)) | (with_reducible exact b4.size) | omega | (simp <;> omega) | (simp <;> (have s := b4.size; omega)) | (have s0 := b4.size; (try simp at s0); (try simp); omega))
end Go.Proofs.YtilbhcjnkmeecaaGreat
