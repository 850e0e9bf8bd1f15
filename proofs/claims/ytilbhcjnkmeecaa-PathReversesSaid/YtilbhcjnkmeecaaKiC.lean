/- A trajectory's beginning with its momenta, and its end, as the program makes them.
Conditions: those written at each theorem. -/
import Derived.Test.YtilbhcjnkmeecaaKsC
import Derived.Test.YtilbhcjnkmeecaaPutC
import Derived.Test.YtilbhcjnkmeecaaFromN
namespace Go.Proofs.Ytilbhcjnkmeecaa
set_option linter.unusedVariables false
set_option linter.unusedSimpArgs false
set_option maxRecDepth 1000000
open Go.RowKit
open Um Tm Cm Km

theorem liesI_news {w : World} {b off : Nat} {l : List Int} (h : LiesI w b off l) : ∀ j u, (l.map vi)[j]? = some u → w.cell? (Addr.add ⟨b, off, none⟩ j) = some u := by
  intro j u hu
  have hadd : (⟨b, off, none⟩ : Addr).add j = ⟨b, off + j, none⟩ := by unfold Addr.add; split <;> simp_all
  rw [hadd]
  rw [List.getElem?_map] at hu
  cases hl : l[j]? with
  | none => rw [hl] at hu; simp at hu
  | some x => rw [hl] at hu; simp at hu; subst hu; exact h j x hl
theorem liesI_ones (l : List Int) : ∀ u ∈ l.map vi, u.oneCell' = true := fun u hu => by
  rw [List.mem_map] at hu
  obtain ⟨x, -, rfl⟩ := hu
  rfl
theorem owned_IBoxK {w : World} {base : Nat} {T : TypeId} {g cap n : Nat} {l : List Int} (hl : l.length = n * 3) (h : w.ownsRow base T 3 (.slice (some ⟨g, 0, none⟩) n cap) n (l.map vi)) : IBox w g l ∧ base ≤ g := by
  have hc := h.2
  rcases hc with ⟨h', _⟩ | ⟨g', cap', cur, h', hb, hg, _⟩
  · simp at h'
  · simp only [Value.slice.injEq, Option.some.injEq, Addr.mk.injEq, and_true, true_and] at h'
    obtain ⟨rfl, -⟩ := h'
    refine ⟨⟨fun i x hx => ?_, fun j => by simp [World.frozen?, hg], (Array.getElem?_eq_some_iff.1 hg).1⟩, hb⟩
    have hi : i < l.length := (List.getElem?_eq_some_iff.1 hx).1
    rw [Nat.zero_add, h.cellAt i (by omega), List.getElem?_map, hx]
    rfl
def RetK (m n : Nat) (l : List Int) (e : Ending) (w' : World) : Prop := ∃ g k : Nat, e = .returned (.slice (some ⟨g, 0, none⟩) n k) ∧ IBox w' g l ∧ m ≤ g
set_option maxHeartbeats 1600000 in
theorem cloneK_any (bl off cap n : Nat) (l : List Int) (w : World) (hl : LiesI w bl off l) (hn : l.length = n * 3) (hpos : 0 < n) (hlen : n ≤ 100) : Calls Try.prog 94 #[.slice (some ⟨bl, off, none⟩) n cap] w fun e w' => RetK w.heap.size n l e w' ∧ Below w.heap.size w w' := by
  obtain ⟨i0, hi, hz0, hz1, hz2⟩ := info_parts infoK
  have H := Lib.hid hl
  have HN := Lib.hid hn
  have q := fun W : World => Lib.run_eql_slice_nil (P := Try.prog) W 26 34 (some ⟨bl, off, none⟩) n cap 0 0 Try.underlying26
  clear hl hn
  go_enter Try.func94, Try.ntmps94
  go_wp2_with (at_builtin; refine wpList_append_own _ rfl (.tmp 5) (.tmp 6) 26 rfl w.heap.size 34 i0 _ 3 24 Try.underlying26 hi hz0 hz1 hz2 rfl (by decide) (.slice (some ⟨w.heap.size, 0, none⟩) 0 0) 0 [] rfl (World.ownsRow_lit w #[] 0 (Nat.le_refl _) (by unfold maxLen; omega) (by simp)) ⟨bl, off, none⟩ n cap (l.map vi) rfl (by rw [List.length_map]; exact HN.out) (liesI_news (H.out.later ((Below.refl _ _).alloc (Nat.le_refl _) _))) (liesI_ones l) (by unfold maxLen; omega) (by omega) (by simp) ?_; intro v' w1 hown hgrow _)
  rw [Nat.zero_add, List.nil_append] at hown
  obtain ⟨g, k, rfl, hgb, -⟩ := owned_liesK hown hpos HN.out
  obtain ⟨LB, hgb2⟩ := owned_IBoxK HN.out hown
  have hb := ((Below.refl w.heap.size w).alloc (Nat.le_refl _) (.cells #[] 34)).grown hgrow (by simp) (fun j hj => by simp [Value.ownBlock] at hj; omega)
  have HLB := Lib.hid LB
  have HHB := Lib.hid hb
  clear hown hgrow LB hb
  go_ret
  exact ⟨⟨g, k, by simp, HLB.out, hgb⟩, HHB.out⟩
/-- a course with momenta, new -/
def RetS (a b c : Int) (n N m : Nat) (L : List Q) (l : List Int) (e : Ending) (w' : World) : Prop := ∃ B gl gx gp gm kl kx km : Nat, e = .returned (.tuple #[.pointer (some ⟨B, 0, none⟩), .int .i64 0]) ∧ CO a b c n N w' m B gl gx gp kl kx L ∧ CM n w' m B gl gx gp gm km l
theorem co_d6 {a b c : Int} {n N : Nat} {w : World} {m B gl gx gp kl kx : Nat} {L : List Q} (k : CO a b c n N w m B gl gx gp kl kx L) (hN : 0 < N) : gx ≠ B := fun e => by
  have h1 := k.nx 0 hN 5 (by omega) (by omega)
  rw [e, Nat.zero_mul, Nat.zero_add, k.cx] at h1
  simp at h1
theorem co_mom {a b c : Int} {n N : Nat} {w : World} {m B gl gx gp kl kx : Nat} {L : List Q} (k : CO a b c n N w m B gl gx gp kl kx L) (hN : 0 < N) (v : Value) : CO a b c n N (w.setCell ⟨B, 4, none⟩ v) m B gl gx gp kl kx L := by
  have hg := grown_setCell w ⟨B, 4, none⟩ v
  have o : ∀ (j : Nat) (x : Value), j ≠ 4 → w.cell? ⟨B, j, none⟩ = some x → (w.setCell ⟨B, 4, none⟩ v).cell? ⟨B, j, none⟩ = some x := fun j x hj hx => by
    rw [World.cell?_setCell_other _ _ _ _ (by simp <;> omega)]
    exact hx
  exact ⟨o _ _ (by omega) k.z0, o _ _ (by omega) k.z1, o _ _ (by omega) k.z2, o _ _ (by omega) k.cl, o _ _ (by omega) k.cx, o _ _ (by omega) k.cp, fun j => by rw [World.frozen?_setCell]; exact k.fb j, k.li.grown hg (by simp; exact Ne.symm k.d5), k.nx.grown hg (by simp; exact co_d6 k hN), k.pr.grown hg (by simp; exact Ne.symm k.d3), k.ml, k.mx, k.mp, k.mb, k.d1, k.d2, k.d3, k.d4, k.d5, by simp [World.setCell]; exact k.lb⟩
set_option maxHeartbeats 3200000 in
theorem start_bad (a b c r0 r : Int) (ao po : Option Addr) (cap pc n : Nat) (L : List Q) (ns l : List Int) (w : World) (h : LiesO w ao L) (hp : LiesOI w po l) (hl : l.length = n * 3) (hr : numsR a b c L ns r0) (hv : vkR L.length n l r0 r) (h0 : r ≠ 0) (hlen : L.length ≤ 1000000) : Calls Try.prog 59 #[.agg #[.int .i64 a, .int .i64 b, .int .i64 c, .slice ao L.length cap], .slice po n pc] w fun e w' => e = .returned (.tuple #[.pointer none, .int .i64 r]) ∧ Below w.heap.size w w' := by
  have H := Lib.hid h
  have HP := Lib.hid hp
  have c1 : ∀ W : World, LiesO W ao L → LiesOI W po l → Calls Try.prog 16 #[.agg #[.int .i64 a, .int .i64 b, .int .i64 c, .slice ao L.length cap], .slice po n pc] W fun e w' => e = .returned (.int .i64 r) ∧ Below W.heap.size W w' := fun W h h2 => validateK_any a b c r0 r ao po cap pc n L ns l W h h2 hl hr hv hlen
  have h0' : (r != 0) = true := by simpa using h0
  clear h hp hr hv h0 hl
  go_enter Try.func59, Try.ntmps59
  go_wp2_with ((with_reducible refine (c1 _ (H.out.later (by repeat (first | (with_reducible exact Below.refl _ _) | (with_reducible refine Below.setCell ?_ ?_ _) | (with_reducible refine Below.drew ?_) | (with_reducible refine Below.alloc ?_ ?_ _) | omega | (simp <;> omega)))) (HP.out.later (by repeat (first | (with_reducible exact Below.refl _ _) | (with_reducible refine Below.setCell ?_ ?_ _) | (with_reducible refine Below.drew ?_) | (with_reducible refine Below.alloc ?_ ?_ _) | omega | (simp <;> omega))))).mono ?_); rintro e w1 ⟨rfl, hw1⟩)
  go_ret2
  exact ⟨rfl, by repeat (first | (with_reducible exact Below.refl _ _) | (with_reducible refine Below.setCell ?_ ?_ _) | (with_reducible refine Below.drew ?_) | (with_reducible refine Below.alloc ?_ ?_ _) | (with_reducible refine Below.trans ?_ (Below.mono hw1 ?_)) | (with_reducible exact hw1.size) | omega | (simp <;> omega) | (simp <;> (have s := hw1.size; omega)) | (have s0 := hw1.size; (try simp at s0); (try simp); omega))⟩
set_option maxHeartbeats 3200000 in
theorem start_ok (a b c : Int) (bl off cap pb po pc n N : Nat) (L : List Q) (ns l : List Int) (w : World) (h : Lies w bl off L) (hp : LiesI w pb po l) (hl : l.length = n * 3) (hr : numsR a b c L ns 0) (hv : vkR L.length n l 0 0) (hN : (N : Int) = a * b * c) (hn : L.length = n) : Calls Try.prog 59 #[.agg #[.int .i64 a, .int .i64 b, .int .i64 c, .slice (some ⟨bl, off, none⟩) L.length cap], .slice (some ⟨pb, po, none⟩) n pc] w fun e w' => RetS a b c n N w.heap.size L l e w' ∧ Below w.heap.size w w' := by
  have H := Lib.hid h
  have HP := Lib.hid hp
  obtain ⟨hfl, hq, hS⟩ := numsR_smR hr
  have h48 := fld_len hfl
  have hN0 : 0 < N := by obtain ⟨-, -, p3, -⟩ := mul_rng (fldR_ok hfl).1.a1 (fldR_ok hfl).1.a4 (fldR_ok hfl).1.b1 (fldR_ok hfl).1.b4 (fldR_ok hfl).1.c1 (fldR_ok hfl).1.c4; omega
  have hn0 : 0 < n := by have := (fldR_ok hfl).2.1; omega
  have c1 : ∀ W : World, Lies W bl off L → LiesI W pb po l → Calls Try.prog 16 #[.agg #[.int .i64 a, .int .i64 b, .int .i64 c, .slice (some ⟨bl, off, none⟩) L.length cap], .slice (some ⟨pb, po, none⟩) n pc] W fun e w' => e = .returned (.int .i64 0) ∧ Below W.heap.size W w' := fun W h h2 => validateK_any a b c 0 0 (some ⟨bl, off, none⟩) (some ⟨pb, po, none⟩) cap pc n L ns l W (.inr ⟨bl, off, rfl, h⟩) (.inr ⟨pb, po, rfl, h2⟩) hl hr hv (by omega)
  have c2 := fun (W : World) (h : Lies W bl off L) => resting_ok a b c bl off cap n N L W h hfl hS hn hN hq
  have c3 := fun (W : World) (h : LiesI W pb po l) => cloneK_any pb po pc n l W h hl hn0 (by omega)
  have HN := Lib.hid hn
  clear h hp hl hr hv hN hfl hq hS hn
  go_enter Try.func59, Try.ntmps59
  go_wp2_with (fail)
  refine (c1 _ (H.out.later (by repeat (first | (with_reducible exact Below.refl _ _) | (with_reducible refine Below.setCell ?_ ?_ _) | (with_reducible refine Below.drew ?_) | (with_reducible refine Below.alloc ?_ ?_ _) | omega | (simp <;> omega)))) (HP.out.later (by repeat (first | (with_reducible exact Below.refl _ _) | (with_reducible refine Below.setCell ?_ ?_ _) | (with_reducible refine Below.drew ?_) | (with_reducible refine Below.alloc ?_ ?_ _) | omega | (simp <;> omega))))).mono ?_
  clear c1
  rintro e w1 ⟨rfl, hw1⟩
  have hc1 := Tail.cells hw1
  have s1 := hw1.size
  simp at s1
  have z1 : w.heap.size < w1.heap.size := by omega
  have b1 : Below w.heap.size w w1 := by repeat (first | (with_reducible exact Below.refl _ _) | (with_reducible refine Below.setCell ?_ ?_ _) | (with_reducible refine Below.drew ?_) | (with_reducible refine Below.alloc ?_ ?_ _) | (with_reducible refine Below.trans ?_ (Below.mono hw1 ?_)) | (with_reducible exact hw1.size) | omega | (simp <;> omega) | (simp <;> (have s := hw1.size; omega)) | (have s0 := hw1.size; (try simp at s0); (try simp); omega))
  clear s1
  go_wp2_with (fail)
  refine (c2 _ (H.out.later b1)).mono ?_
  clear c2
  rintro e w2 ⟨⟨B, gl, gx, gp, kl, kx, rfl, hCO, hc4⟩, hw2⟩
  have b2 : Below w.heap.size w w2 := by repeat (first | (with_reducible exact Below.refl _ _) | (with_reducible refine Below.setCell ?_ ?_ _) | (with_reducible refine Below.drew ?_) | (with_reducible refine Below.alloc ?_ ?_ _) | (with_reducible refine Below.trans ?_ (Below.mono hw2 ?_)) | (with_reducible refine Below.trans ?_ (Below.mono b1 ?_)) | (with_reducible exact hw2.size) | (with_reducible exact b1.size) | omega | (simp <;> omega) | (simp <;> (have s := hw2.size; omega)) | (simp <;> (have s := b1.size; omega)) | (have s0 := hw2.size; (try simp at s0); have s1 := b1.size; (try simp at s1); (try simp); omega))
  have lB := hCO.lb
  have HCO := Lib.hid hCO
  have H4 := Lib.hid hc4
  clear hCO hc4 hc1
  go_wp2_with (fail)
  refine (c3 _ (HP.out.later b2)).mono ?_
  clear c3
  rintro e w3 ⟨⟨gm, km, rfl, hmi, hgm⟩, hw3⟩
  have K3 := HCO.out.later hw3
  have x4 : w3.cell? ⟨B, 4, none⟩ = some (.slice none 0 0) := (hw3.cell lB).trans H4.out
  have fB := K3.fb
  have lB3 := K3.lb
  have K4 := Lib.hid (co_mom K3 hN0 (.slice (some ⟨gm, 0, none⟩) n km))
  have l1 := HCO.out.li.lt
  have l2 := HCO.out.pr.lt
  have l3 := HCO.out.nx.lt hN0
  have lw : w.heap.size ≤ w1.heap.size := b1.size
  have lw2 : w1.heap.size ≤ w2.heap.size := hw2.size
  have mb : w1.heap.size ≤ B := HCO.out.mb
  have M4 := Lib.hid (⟨World.cell?_setCell_same _ _ _ x4, hmi.other (by omega), by omega, by omega, by omega, by omega, by omega⟩ : CM n (w3.setCell ⟨B, 4, none⟩ (.slice (some ⟨gm, 0, none⟩) n km)) w.heap.size B gl gx gp gm km l)
  have K5 : Hid (CO a b c n N (w3.setCell ⟨B, 4, none⟩ (.slice (some ⟨gm, 0, none⟩) n km)) w.heap.size B gl gx gp kl kx L) := by
    have k := K4.out
    have a1 := k.ml
    have a2 := k.mx
    have a3 := k.mp
    exact Lib.hid ⟨k.z0, k.z1, k.z2, k.cl, k.cx, k.cp, k.fb, k.li, k.nx, k.pr, by omega, by omega, by omega, by omega, k.d1, k.d2, k.d3, k.d4, k.d5, k.lb⟩
  have b3 : Below w.heap.size w w3 := by repeat (first | (with_reducible exact Below.refl _ _) | (with_reducible refine Below.setCell ?_ ?_ _) | (with_reducible refine Below.drew ?_) | (with_reducible refine Below.alloc ?_ ?_ _) | (with_reducible refine Below.trans ?_ (Below.mono hw3 ?_)) | (with_reducible refine Below.trans ?_ (Below.mono b2 ?_)) | (with_reducible exact hw3.size) | (with_reducible exact b2.size) | omega | (simp <;> omega) | (simp <;> (have s := hw3.size; omega)) | (simp <;> (have s := b2.size; omega)) | (have s0 := hw3.size; (try simp at s0); have s1 := b2.size; (try simp at s1); (try simp); omega))
  have b4 : Below w.heap.size w (w3.setCell ⟨B, 4, none⟩ (.slice (some ⟨gm, 0, none⟩) n km)) := b3.setCell (by show w.heap.size ≤ B; omega) _
  have HR := Lib.hid (show RetS a b c n N w.heap.size L l (.returned (.tuple #[.pointer (some ⟨B, 0, none⟩), .int .i64 0])) (w3.setCell ⟨B, 4, none⟩ (.slice (some ⟨gm, 0, none⟩) n km)) from ⟨B, gl, gx, gp, gm, kl, kx, km, rfl, K5.out, M4.out⟩)
  have HB4 := Lib.hid b4
  clear K3 K4 K5 M4 l1 l2 l3 b4 b3 hmi hw3
  go_wp2
  go_ret2
  exact ⟨HR.out, HB4.out⟩
end Go.Proofs.Ytilbhcjnkmeecaa
