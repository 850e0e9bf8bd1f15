/- Push, Drift and Step, as the program makes them.
Conditions: those written at each theorem. -/
import Derived.Test.YtilbhcjnkmeecaaGreatKorB
import Derived.Test.YtilbhcjnkmeecaaGreatWlk
namespace Go.Proofs.YtilbhcjnkmeecaaGreat
set_option linter.unusedVariables false
set_option linter.unusedSimpArgs false
set_option maxRecDepth 1000000
open Go.RowKit
open Um Tm Cm Km

/-- momenta in a box of their own, and no error -/
def RetKB (m n : Nat) (l : List Int) (e : Ending) (w' : World) : Prop := ∃ g k : Nat, e = .returned (.tuple #[.slice (some ⟨g, 0, none⟩) n k, .int .i64 0]) ∧ IBox w' g l ∧ m ≤ g
/-- a field in a box of its own, and no error -/
def RetFO (a b c : Int) (m n : Nat) (L : List Q) (e : Ending) (w' : World) : Prop := ∃ g k : Nat, e = .returned (.tuple #[.agg #[.int .i64 a, .int .i64 b, .int .i64 c, .slice (some ⟨g, 0, none⟩) n k], .int .i64 0]) ∧ LBox w' g L ∧ m ≤ g
set_option maxHeartbeats 3200000 in
theorem pPush_bad (a b c r0 r : Int) (ao po : Option Addr) (cap pc n : Nat) (L : List Q) (ns l : List Int) (w : World) (h : LiesO w ao L) (hp : LiesOI w po l) (hl : l.length = n * 3) (hr : numsR a b c L ns r0) (hv : vkR L.length n l r0 r) (h0 : r ≠ 0) (hlen : L.length ≤ 1000000) : Calls Tryz.prog 12 #[.agg #[.int .i64 a, .int .i64 b, .int .i64 c, .slice ao L.length cap], .slice po n pc] w fun e w' => e = .returned (.tuple #[.slice none 0 0, .int .i64 r]) ∧ Below w.heap.size w w' := by
  have H := Lib.hid h
  have HP := Lib.hid hp
  have c1 := fun (W : World) (h : LiesO W ao L) (h2 : LiesOI W po l) => start_bad a b c r0 r ao po cap pc n L ns l W h h2 hl hr hv h0 hlen
  have h0' : (r != 0) = true := by simpa using h0
  clear h hp hr hv h0 hl
  go_enter Tryz.func12, Tryz.ntmps12
  go_wp2_with (fail)
  refine (c1 _ (H.out.later ba1) (HP.out.later ba1)).mono ?_
  rintro e w1 ⟨rfl, hw1⟩
  go_wp2_with (fail)
  go_ret2
  exact ⟨rfl, bel1 hw1⟩
set_option maxHeartbeats 3200000 in
theorem pDrift_bad (a b c r0 r : Int) (ao po : Option Addr) (cap pc n : Nat) (L : List Q) (ns l : List Int) (w : World) (h : LiesO w ao L) (hp : LiesOI w po l) (hl : l.length = n * 3) (hr : numsR a b c L ns r0) (hv : vkR L.length n l r0 r) (h0 : r ≠ 0) (hlen : L.length ≤ 1000000) : Calls Tryz.prog 14 #[.agg #[.int .i64 a, .int .i64 b, .int .i64 c, .slice ao L.length cap], .slice po n pc] w fun e w' => e = .returned (.tuple #[.agg #[.int .i64 0, .int .i64 0, .int .i64 0, .slice none 0 0], .int .i64 r]) ∧ Below w.heap.size w w' := by
  have H := Lib.hid h
  have HP := Lib.hid hp
  have c1 := fun (W : World) (h : LiesO W ao L) (h2 : LiesOI W po l) => start_bad a b c r0 r ao po cap pc n L ns l W h h2 hl hr hv h0 hlen
  have h0' : (r != 0) = true := by simpa using h0
  clear h hp hr hv h0 hl
  go_enter Tryz.func14, Tryz.ntmps14
  go_wp2_with (fail)
  refine (c1 _ (H.out.later ba2) (HP.out.later ba2)).mono ?_
  rintro e w1 ⟨rfl, hw1⟩
  obtain ⟨t0, t1, t2, t3, tf, tl⟩ := FW.n2b.later hw1
  go_wp2_with (fail)
  have hb := bel2 hw1
  refine bodyPost_ret (v := .tuple #[.agg #[.int .i64 0, .int .i64 0, .int .i64 0, .slice none 0 0], .int .i64 r]) (by simp [results, Tryz.results14, go_sem, t0, t1, t2, t3, tl]) rfl ⟨rfl, ?_⟩
  repeat (first | (with_reducible exact Below.refl _ _) | (with_reducible refine Below.setCell ?_ ?_ _) | (with_reducible refine Below.drew ?_) | (with_reducible refine Below.alloc ?_ ?_ _) | (with_reducible refine Below.trans ?_ (Below.mono hb ?_)) | (with_reducible exact hb.size) | omega | (simp <;> omega) | (simp <;> (have s := hb.size; omega)) | (have s0 := hb.size; (try simp at s0); (try simp); omega))
set_option maxHeartbeats 3200000 in
theorem pStep_bad (a b c r0 r : Int) (ao po : Option Addr) (cap pc n : Nat) (L : List Q) (ns l : List Int) (w : World) (h : LiesO w ao L) (hp : LiesOI w po l) (hl : l.length = n * 3) (hr : numsR a b c L ns r0) (hv : vkR L.length n l r0 r) (h0 : r ≠ 0) (hlen : L.length ≤ 1000000) : Calls Tryz.prog 18 #[.agg #[.int .i64 a, .int .i64 b, .int .i64 c, .slice ao L.length cap], .slice po n pc] w fun e w' => e = .returned (.tuple #[.agg #[.int .i64 0, .int .i64 0, .int .i64 0, .slice none 0 0], .slice none 0 0, .int .i64 r]) ∧ Below w.heap.size w w' := by
  have H := Lib.hid h
  have HP := Lib.hid hp
  have c1 := fun (W : World) (h : LiesO W ao L) (h2 : LiesOI W po l) => run_bad a b c r0 r 1 r ao po cap pc n L ns l W h h2 hl hr hv (.inl ⟨h0, rfl⟩) hlen
  clear h hp hr hv h0 hl
  go_enter Tryz.func18, Tryz.ntmps18
  go_wp2_with (fail)
  refine (c1 _ (H.out.later ba2) (HP.out.later ba2)).mono ?_
  rintro e w1 ⟨rfl, hw1⟩
  obtain ⟨t0, t1, t2, t3, tf, tl⟩ := FW.n2b.later hw1
  go_wp2_with (fail)
  have hb := bel2 hw1
  refine bodyPost_ret (v := .tuple #[.agg #[.int .i64 0, .int .i64 0, .int .i64 0, .slice none 0 0], .slice none 0 0, .int .i64 r]) (by simp [results, Tryz.results18, go_sem, t0, t1, t2, t3, tl]) rfl ⟨rfl, ?_⟩
  repeat (first | (with_reducible exact Below.refl _ _) | (with_reducible refine Below.setCell ?_ ?_ _) | (with_reducible refine Below.drew ?_) | (with_reducible refine Below.alloc ?_ ?_ _) | (with_reducible refine Below.trans ?_ (Below.mono hb ?_)) | (with_reducible exact hb.size) | omega | (simp <;> omega) | (simp <;> (have s := hb.size; omega)) | (have s0 := hb.size; (try simp at s0); (try simp); omega))
set_option maxHeartbeats 3200000 in
theorem pStep_ok (a b c : Int) (bl off cap pb po pc n N : Nat) (L : List Q) (l : List Int) (w : World) (h : Lies w bl off L) (hp : LiesI w pb po l) (hst : St a b c n L l) (hN : (N : Int) = a * b * c) : Calls Tryz.prog 18 #[.agg #[.int .i64 a, .int .i64 b, .int .i64 c, .slice (some ⟨bl, off, none⟩) n cap], .slice (some ⟨pb, po, none⟩) n pc] w fun e w' => RetRun a b c n w.heap.size (stp a b c (L, l)) e w' ∧ Below w.heap.size w w' := by
  have H := Lib.hid h
  have HP := Lib.hid hp
  have c1 : ∀ W : World, Lies W bl off L → LiesI W pb po l → Calls Tryz.prog 20 #[.agg #[.int .i64 a, .int .i64 b, .int .i64 c, .slice (some ⟨bl, off, none⟩) n cap], .slice (some ⟨pb, po, none⟩) n pc, .int .i64 1] W fun e w' => RetRun a b c n W.heap.size (stp a b c (L, l)) e w' ∧ Below W.heap.size W w' := fun W h1 h2 => by
    have := run_ok a b c bl off cap pb po pc n N 1 L l W h1 h2 hst hN (by omega)
    rw [hst.e] at this
    exact this
  clear h hp hst hN
  generalize stp a b c (L, l) = s at *
  go_enter Tryz.func18, Tryz.ntmps18
  go_wp2_with (fail)
  refine (c1 _ (H.out.later ba2) (HP.out.later ba2)).mono ?_
  rintro e w1 ⟨⟨g, k, gm, km, rfl, hlb, hib, hg, hgm, hgg⟩, hw1⟩
  obtain ⟨t0, t1, t2, t3, tf, tl⟩ := FW.n2b.later hw1
  have hb := bel2 hw1
  simp at hg hgm
  have HLB := Lib.hid hlb
  have HIB := Lib.hid hib
  clear hlb hib hw1 c1
  have Gs := grown_setCells (w.heap.size + 1) [.int .i64 a, .int .i64 b, .int .i64 c, .slice (some ⟨g, 0, none⟩) n k] 0 w1
  go_wp2_with (fail)
  refine bodyPost_ret (v := .tuple #[.agg #[.int .i64 a, .int .i64 b, .int .i64 c, .slice (some ⟨g, 0, none⟩) n k], .slice (some ⟨gm, 0, none⟩) n km, .int .i64 0]) (by simp [results, Tryz.results18, go_sem, t0, t1, t2, t3, tl]) rfl ⟨⟨g, k, gm, km, rfl, HLB.out.grown Gs (by simp; omega), HIB.out.grown Gs (by simp; omega), by omega, by omega, hgg⟩, ?_⟩
  repeat (first | (with_reducible exact Below.refl _ _) | (with_reducible refine Below.setCell ?_ ?_ _) | (with_reducible refine Below.drew ?_) | (with_reducible refine Below.alloc ?_ ?_ _) | (with_reducible refine Below.trans ?_ (Below.mono hb ?_)) | (with_reducible exact hb.size) | omega | (simp <;> omega) | (simp <;> (have s := hb.size; omega)) | (have s0 := hb.size; (try simp at s0); (try simp); omega))
set_option maxHeartbeats 6400000 in
theorem pPush_ok (a b c : Int) (bl off cap pb po pc n N : Nat) (L : List Q) (l : List Int) (w : World) (h : Lies w bl off L) (hp : LiesI w pb po l) (hst : St a b c n L l) (hN : (N : Int) = a * b * c) : Calls Tryz.prog 12 #[.agg #[.int .i64 a, .int .i64 b, .int .i64 c, .slice (some ⟨bl, off, none⟩) n cap], .slice (some ⟨pb, po, none⟩) n pc] w fun e w' => RetKB w.heap.size n (psh (frc a b c L) l) e w' ∧ Below w.heap.size w w' := by
  have H := Lib.hid h
  have HP := Lib.hid hp
  have HST := Lib.hid hst
  obtain ⟨hr, hv⟩ := St_nums hst
  have c1 : ∀ W : World, Lies W bl off L → LiesI W pb po l → Calls Tryz.prog 29 #[.agg #[.int .i64 a, .int .i64 b, .int .i64 c, .slice (some ⟨bl, off, none⟩) n cap], .slice (some ⟨pb, po, none⟩) n pc] W fun e w' => RetS a b c n N W.heap.size L l e w' ∧ Below W.heap.size W w' := fun W h h2 => by
    have := start_ok a b c bl off cap pb po pc n N L _ l W h h2 hst.m hr hv hN hst.e
    rw [hst.e] at this
    exact this
  have c2 := fun (W : World) (m B gl gx gp gm kl kx km q : Nat) (h : KS a b c n N W m B gl gx gp gm kl kx km (L, l)) (hP : ∀ (i : Nat) (x : Bool), [true][i]? = some x → W.cell? ⟨q, i, none⟩ = some (pv x)) (n1 : q ≠ gl) (n2 : q ≠ gp) (n3 : q ≠ gm) => do_any a b c n N W m B gl gx gp gm kl kx km q 1 (L, l) [true] h hN hP (by simp) n1 n2 n3
  clear h hp hst hN hr hv
  go_enter Tryz.func12, Tryz.ntmps12
  go_wp2_with (fail)
  refine (c1 _ (H.out.later ba1) (HP.out.later ba1)).mono ?_
  clear c1
  rintro e w1 ⟨⟨B, gl, gx, gp, gm, kl, kx, km, rfl, hCO, hCM⟩, hw1⟩
  have hb1 := bel1 hw1
  have hm2 : (w.alloc (.cells #[.int .i64 a, .int .i64 b, .int .i64 c, .slice (some ⟨bl, off, none⟩) n cap] 25)).heap.size = w.heap.size + 1 := by simp
  rw [hm2] at hCO hCM
  have l1 := hCO.li.lt
  have l2 := hCO.pr.lt
  have l3 := hCM.mi.lt
  have lB := hCO.lb
  have hK := Lib.hid (show KS a b c n N w1 (w.heap.size + 1) B gl gx gp gm kl kx km (L, l) from ⟨hCO, hCM, HST.out⟩)
  clear hCO hCM hw1 hm2
  go_wp2_with (fail)
  have bA : Below w1.heap.size w1 (w1.alloc (.cells #[.iface 61 (.agg #[])] 100)) := by repeat (first | (with_reducible exact Below.refl _ _) | (with_reducible refine Below.setCell ?_ ?_ _) | (with_reducible refine Below.drew ?_) | (with_reducible refine Below.alloc ?_ ?_ _) | omega | (simp <;> omega))
  refine (c2 _ _ _ _ _ _ _ _ _ _ w1.heap.size ⟨hK.out.co.later bA, hK.out.cm.later bA, hK.out.st⟩ (fun i x hx => ?_) (by omega) (by omega) (by omega)).mono ?_
  · match i, hx with
    | 0, hx => simp at hx; subst hx; simp [go_sem, pv]
    | i + 1, hx => simp at hx
  · rintro e w2 ⟨rfl, hk, hq⟩
    have hb2 : Below (w.heap.size + 1) _ w2 := hq.below (by simp; have := hK.out.co.mb; omega) hK.out.co.ml hK.out.co.mp hK.out.cm.mm
    have hcm := hk.cm.cm
    have hmi := Lib.hid hk.cm.mi
    have hmm := hk.cm.mm
    have lB2 := hk.co.lb
    have hbA : Below w.heap.size w w2 := (show Below w.heap.size w (w1.alloc (.cells #[.iface 61 (.agg #[])] 100)) by repeat (first | (with_reducible exact Below.refl _ _) | (with_reducible refine Below.setCell ?_ ?_ _) | (with_reducible refine Below.drew ?_) | (with_reducible refine Below.alloc ?_ ?_ _) | (with_reducible refine Below.trans ?_ (Below.mono hb1 ?_)) | (with_reducible exact hb1.size) | omega | (simp <;> omega) | (simp <;> (have s := hb1.size; omega)) | (have s0 := hb1.size; (try simp at s0); (try simp); omega))).trans (hb2.mono (by omega))
    clear hk hq hb2 c2 hK
    go_wp2_with (fail)
    go_ret2
    exact ⟨⟨gm, km, rfl, hmi.out, by omega⟩, hbA⟩
set_option maxHeartbeats 6400000 in
theorem pDrift_ok (a b c : Int) (bl off cap pb po pc n N : Nat) (L : List Q) (l : List Int) (w : World) (h : Lies w bl off L) (hp : LiesI w pb po l) (hst : St a b c n L l) (hN : (N : Int) = a * b * c) : Calls Tryz.prog 14 #[.agg #[.int .i64 a, .int .i64 b, .int .i64 c, .slice (some ⟨bl, off, none⟩) n cap], .slice (some ⟨pb, po, none⟩) n pc] w fun e w' => RetFO a b c w.heap.size n (dft L l) e w' ∧ Below w.heap.size w w' := by
  have H := Lib.hid h
  have HP := Lib.hid hp
  have HST := Lib.hid hst
  have HSD := Lib.hid hst.drift
  have h48 : n ≤ 48 := by have := hst.f.n; have := hst.e; have := hst.f.z.p; omega
  obtain ⟨hr, hv⟩ := St_nums hst
  have c1 : ∀ W : World, Lies W bl off L → LiesI W pb po l → Calls Tryz.prog 29 #[.agg #[.int .i64 a, .int .i64 b, .int .i64 c, .slice (some ⟨bl, off, none⟩) n cap], .slice (some ⟨pb, po, none⟩) n pc] W fun e w' => RetS a b c n N W.heap.size L l e w' ∧ Below W.heap.size W w' := fun W h h2 => by
    have := start_ok a b c bl off cap pb po pc n N L _ l W h h2 hst.m hr hv hN hst.e
    rw [hst.e] at this
    exact this
  have c2 := fun (W : World) (m B gl gx gp gm kl kx km q : Nat) (h : KS a b c n N W m B gl gx gp gm kl kx km (L, l)) (hP : ∀ (i : Nat) (x : Bool), [false][i]? = some x → W.cell? ⟨q, i, none⟩ = some (pv x)) (n1 : q ≠ gl) (n2 : q ≠ gp) (n3 : q ≠ gm) => do_any a b c n N W m B gl gx gp gm kl kx km q 1 (L, l) [false] h hN hP (by simp) n1 n2 n3
  clear h hp hst hN hr hv
  go_enter Tryz.func14, Tryz.ntmps14
  go_wp2_with (fail)
  refine (c1 _ (H.out.later ba2) (HP.out.later ba2)).mono ?_
  clear c1
  rintro e w1 ⟨⟨B, gl, gx, gp, gm, kl, kx, km, rfl, hCO, hCM⟩, hw1⟩
  have TR1 := Lib.hid (FW.n2b.later hw1)
  have hb1 := bel2 hw1
  have hm2 : ((w.alloc (.cells #[.int .i64 a, .int .i64 b, .int .i64 c, .slice (some ⟨bl, off, none⟩) n cap] 25)).alloc (.cells #[.int .i64 0, .int .i64 0, .int .i64 0, .slice none 0 0] 25)).heap.size = w.heap.size + 2 := by simp
  rw [hm2] at hCO hCM
  have l1 := hCO.li.lt
  have l2 := hCO.pr.lt
  have l3 := hCM.mi.lt
  have lB := hCO.lb
  have hK := Lib.hid (show KS a b c n N w1 (w.heap.size + 2) B gl gx gp gm kl kx km (L, l) from ⟨hCO, hCM, HST.out⟩)
  clear hCO hCM hw1 hm2
  go_wp2_with (fail)
  have bA : Below w1.heap.size w1 (w1.alloc (.cells #[.iface 69 (.agg #[])] 100)) := by repeat (first | (with_reducible exact Below.refl _ _) | (with_reducible refine Below.setCell ?_ ?_ _) | (with_reducible refine Below.drew ?_) | (with_reducible refine Below.alloc ?_ ?_ _) | omega | (simp <;> omega))
  refine (c2 _ _ _ _ _ _ _ _ _ _ w1.heap.size ⟨hK.out.co.later bA, hK.out.cm.later bA, hK.out.st⟩ (fun i x hx => ?_) (by omega) (by omega) (by omega)).mono ?_
  · match i, hx with
    | 0, hx => simp at hx; subst hx; simp [go_sem, pv]
    | i + 1, hx => simp at hx
  · rintro e w2 ⟨rfl, hk, hq⟩
    have hb2 : Below (w.heap.size + 2) _ w2 := hq.below (by simp; have := hK.out.co.mb; omega) hK.out.co.ml hK.out.co.mp hK.out.cm.mm
    have hbA : Below w.heap.size w w2 := (show Below w.heap.size w (w1.alloc (.cells #[.iface 69 (.agg #[])] 100)) by repeat (first | (with_reducible exact Below.refl _ _) | (with_reducible refine Below.setCell ?_ ?_ _) | (with_reducible refine Below.drew ?_) | (with_reducible refine Below.alloc ?_ ?_ _) | (with_reducible refine Below.trans ?_ (Below.mono hb1 ?_)) | (with_reducible exact hb1.size) | omega | (simp <;> omega) | (simp <;> (have s := hb1.size; omega)) | (have s0 := hb1.size; (try simp at s0); (try simp); omega))).trans (hb2.mono (by omega))
    have TA := TR1.out.later bA
    have TR2 : FW w2 (w.heap.size + 1) 0 0 0 (.slice none 0 0) := ⟨(hb2.cell (by show w.heap.size + 1 < w.heap.size + 2; omega)).trans TA.c0, (hb2.cell (by show w.heap.size + 1 < w.heap.size + 2; omega)).trans TA.c1, (hb2.cell (by show w.heap.size + 1 < w.heap.size + 2; omega)).trans TA.c2, (hb2.cell (by show w.heap.size + 1 < w.heap.size + 2; omega)).trans TA.c3, fun j => (hb2.frozen (p := ⟨w.heap.size + 1, j, none⟩) (by show w.heap.size + 1 < w.heap.size + 2; omega)).trans (TA.free j), Nat.lt_of_lt_of_le TA.lt hb2.size⟩
    have HTR2 := Lib.hid TR2
    have HBA := Lib.hid hbA
    have hk' : KS a b c n N w2 (w.heap.size + 2) B gl gx gp gm kl kx km (dft L l, l) := hk
    have c4 := end_ok a b c n N _ _ B gl gx gp gm kl kx km _ _ hk'.co hk'.cm HSD.out.f.z (by have := HSD.out.f.n; have := HSD.out.e; omega) h48 HSD.out.s HSD.out.e
    clear hk hq hb2 c2 hK hk' TA TR2 hbA bA TR1 hb1
    go_wp2_with (fail)
    refine c4.mono ?_
    clear c4
    rintro e w4 ⟨⟨g, kg, rfl, hlb, hg⟩, hw4⟩
    obtain ⟨t0, t1, t2, t3, tf, tl⟩ := HTR2.out.later hw4
    have hg2 : w.heap.size + 1 < g := by have := HTR2.out.lt; omega
    have hb := HBA.out.trans (hw4.mono HBA.out.size)
    have HLB := Lib.hid hlb
    clear hlb hw4
    have Gs := (grown_setCells (w.heap.size + 1) [.int .i64 a, .int .i64 b, .int .i64 c, .slice (some ⟨g, 0, none⟩) n kg] 0 w4)
    go_wp2_with (fail)
    refine bodyPost_ret (v := .tuple #[.agg #[.int .i64 a, .int .i64 b, .int .i64 c, .slice (some ⟨g, 0, none⟩) n kg], .int .i64 0]) (by simp [results, Tryz.results14, go_sem, t0, t1, t2, t3, tl]) rfl ⟨⟨g, kg, rfl, (HLB.out.grown Gs (by simp; omega)).grown (row := none) (grown_ofB ba1) (by simp), by omega⟩, ?_⟩
    repeat (first | (with_reducible exact Below.refl _ _) | (with_reducible refine Below.setCell ?_ ?_ _) | (with_reducible refine Below.drew ?_) | (with_reducible refine Below.alloc ?_ ?_ _) | (with_reducible refine Below.trans ?_ (Below.mono hb ?_)) | (with_reducible exact hb.size) | omega | (simp <;> omega) | (simp <;> (have s := hb.size; omega)) | (have s0 := hb.size; (try simp at s0); (try simp); omega))
end Go.Proofs.YtilbhcjnkmeecaaGreat
