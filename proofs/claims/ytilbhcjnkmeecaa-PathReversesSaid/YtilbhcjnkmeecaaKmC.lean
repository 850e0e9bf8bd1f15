/- Steps and runs, as the program makes them.
Conditions: those written at each theorem. -/
import Derived.Test.YtilbhcjnkmeecaaKlC
namespace Go.Proofs.Ytilbhcjnkmeecaa
set_option linter.unusedVariables false
set_option linter.unusedSimpArgs false
set_option maxRecDepth 1000000
open Go.RowKit
open Um Tm Cm Km

theorem alln_K {l : List Int} (h : AllN l) : AllK l := fun x hx => by
  obtain ⟨i, hi⟩ := List.getElem?_of_mem hx
  exact h i x hi
theorem allK_N {l : List Int} (h : AllK l) : AllN l := fun i x hx => h x (List.mem_of_getElem? hx)
theorem vk_ok {m n : Nat} {l : List Int} (h : vkR m n l 0 0) : n = m ∧ AllK l := by
  rcases h with ⟨h, -⟩ | ⟨-, -, h⟩ | ⟨-, h1, ⟨h2, -⟩ | ⟨-, h⟩⟩
  · exact absurd rfl h
  · simp at h
  · exact ⟨h1, alln_K h2⟩
  · simp at h
theorem St_of {a b c : Int} {n : Nat} {L : List Q} {ns l : List Int} (hr : numsR a b c L ns 0) (hv : vkR L.length n l 0 0) (hl : l.length = n * 3) : St a b c n L l := by
  obtain ⟨hfl, -, hS⟩ := numsR_smR hr
  obtain ⟨h1, h2⟩ := vk_ok hv
  exact ⟨fldR_Fl hfl, hS, h1.symm, hl, h2⟩
theorem St_nums {a b c : Int} {n : Nat} {L : List Q} {l : List Int} (h : St a b c n L l) : numsR a b c L (L.map nm) 0 ∧ vkR L.length n l 0 0 := by
  refine ⟨.inr ⟨.inr (.inr ⟨h.f.z, h.f.n, .inl ⟨fun i x hx => .inr (.inr ⟨(h.f.v i x hx).1, (h.f.v i x hx).2, rfl⟩), rfl⟩⟩), .inl ⟨.inl ⟨rfl, by rw [List.length_map], fun i x hi hx => ?_⟩, rfl⟩⟩, .inr (.inr ⟨rfl, h.e.symm, .inl ⟨allK_N h.k, rfl⟩⟩)⟩
  exact ⟨nm x, by rw [List.getElem?_map, hx]; rfl, numR_nm (h.s x (List.mem_of_getElem? hx))⟩
set_option maxHeartbeats 1600000 in
theorem step_any (a b c : Int) (n N : Nat) (w : World) (m B gl gx gp gm kl kx km : Nat) (s : List Q × List Int) (h : KS a b c n N w m B gl gx gp gm kl kx km s) (hN : (N : Int) = a * b * c) :
    Calls Try.prog 60 #[.pointer (some ⟨B, 0, none⟩)] w fun e w' => e = .returned (.tuple #[]) ∧ KS a b c n N w' m B gl gx gp gm kl kx km (stp a b c s) ∧ Below m w w' := by
  have l1 := h.co.li.lt
  have l2 := h.co.pr.lt
  have l3 := h.cm.mi.lt
  have lB := h.co.lb
  have hmB := h.co.mb
  have H := Lib.hid h
  have c1 := fun (W : World) (pb : Nat) (h : KS a b c n N W m B gl gx gp gm kl kx km s) (hP : ∀ (i : Nat) (x : Bool), [true, false, true][i]? = some x → W.cell? ⟨pb, i, none⟩ = some (pv x)) (n1 : pb ≠ gl) (n2 : pb ≠ gp) (n3 : pb ≠ gm) => do_any a b c n N W m B gl gx gp gm kl kx km pb 3 s [true, false, true] h hN hP (by simp) n1 n2 n3
  clear h hN
  go_enter Try.func60, Try.ntmps60
  go_wp2_with (fail)
  have bA : Below w.heap.size w (w.alloc (.cells #[.iface 137 (.agg #[]), .iface 138 (.agg #[]), .iface 137 (.agg #[])] 172)) := by repeat (first | (with_reducible exact Below.refl _ _) | (with_reducible refine Below.setCell ?_ ?_ _) | (with_reducible refine Below.drew ?_) | (with_reducible refine Below.alloc ?_ ?_ _) | omega | (simp <;> omega))
  refine (c1 _ w.heap.size ⟨H.out.co.later bA, H.out.cm.later bA, H.out.st⟩ (fun i x hx => ?_) (by omega) (by omega) (by omega)).mono ?_
  · match i, hx with
    | 0, hx => simp at hx; subst hx; simp [go_sem, pv]
    | 1, hx => simp at hx; subst hx; simp [go_sem, pv]
    | 2, hx => simp at hx; subst hx; simp [go_sem, pv]
    | i + 3, hx => simp at hx
  · rintro e w1 ⟨rfl, hk, hb⟩
    have HKs : Hid (KS a b c n N w1 m B gl gx gp gm kl kx km (stp a b c s)) := Lib.hid hk
    have hb2 := Lib.hid ((bA.mono (by omega : m ≤ w.heap.size)).trans hb)
    clear hk hb c1
    go_wp2
    go_end0
    exact ⟨rfl, HKs.out, hb2.out⟩
/-- what a run answers -/
def RetRun (a b c : Int) (n m : Nat) (s : List Q × List Int) (e : Ending) (w' : World) : Prop := ∃ g k gm km : Nat, e = .returned (.tuple #[.agg #[.int .i64 a, .int .i64 b, .int .i64 c, .slice (some ⟨g, 0, none⟩) n k], .slice (some ⟨gm, 0, none⟩) n km, .int .i64 0]) ∧ LBox w' g s.1 ∧ IBox w' gm s.2 ∧ m ≤ g ∧ m ≤ gm ∧ gm < g
/-- the error of a run's arguments -/
def rnR (r x q : Int) : Prop := (r ≠ 0 ∧ q = r) ∨ (r = 0 ∧ ¬ (0 ≤ x ∧ x ≤ 100) ∧ q = 1)
set_option maxHeartbeats 3200000 in
theorem run_bad (a b c r0 r x q : Int) (ao po : Option Addr) (cap pc n : Nat) (L : List Q) (ns l : List Int) (w : World) (h : LiesO w ao L) (hp : LiesOI w po l) (hl : l.length = n * 3) (hr : numsR a b c L ns r0) (hv : vkR L.length n l r0 r) (hq : rnR r x q) (hlen : L.length ≤ 1000000) : Calls Try.prog 27 #[.agg #[.int .i64 a, .int .i64 b, .int .i64 c, .slice ao L.length cap], .slice po n pc, .int .i64 x] w fun e w' => e = .returned (.tuple #[.agg #[.int .i64 0, .int .i64 0, .int .i64 0, .slice none 0 0], .slice none 0 0, .int .i64 q]) ∧ Below w.heap.size w w' := by
  have H := Lib.hid h
  have HP := Lib.hid hp
  rcases hq with ⟨h0, rfl⟩ | ⟨rfl, hx, rfl⟩
  · have c1 := fun (W : World) (h : LiesO W ao L) (h2 : LiesOI W po l) => start_bad a b c r0 q ao po cap pc n L ns l W h h2 hl hr hv h0 hlen
    have h0' : (q != 0) = true := by simpa using h0
    clear h hp hr hv h0 hl
    go_enter Try.func27, Try.ntmps27
    go_wp2_with ((with_reducible refine (c1 _ (H.out.later (by repeat (first | (with_reducible exact Below.refl _ _) | (with_reducible refine Below.setCell ?_ ?_ _) | (with_reducible refine Below.drew ?_) | (with_reducible refine Below.alloc ?_ ?_ _) | omega | (simp <;> omega)))) (HP.out.later (by repeat (first | (with_reducible exact Below.refl _ _) | (with_reducible refine Below.setCell ?_ ?_ _) | (with_reducible refine Below.drew ?_) | (with_reducible refine Below.alloc ?_ ?_ _) | omega | (simp <;> omega))))).mono ?_); clear c1; rintro e w1 ⟨rfl, hw1⟩; have hc1 := Tail.cells hw1; have s1 := hw1.size; simp at s1; have z1 : w.heap.size + 1 < w1.heap.size := (by omega); clear s1)
    refine bodyPost_ret (v := .tuple #[.agg #[.int .i64 0, .int .i64 0, .int .i64 0, .slice none 0 0], .slice none 0 0, .int .i64 q]) (by simp [results, Try.results27, go_sem, hc1, z1]) rfl ⟨rfl, ?_⟩
    repeat (first | (with_reducible exact Below.refl _ _) | (with_reducible refine Below.setCell ?_ ?_ _) | (with_reducible refine Below.drew ?_) | (with_reducible refine Below.alloc ?_ ?_ _) | (with_reducible refine Below.trans ?_ (Below.mono hw1 ?_)) | (with_reducible exact hw1.size) | omega | (simp <;> omega) | (simp <;> (have s := hw1.size; omega)) | (have s0 := hw1.size; (try simp at s0); (try simp); omega))
  · obtain rfl : r0 = 0 := by rcases hv with ⟨h1, h2⟩ | ⟨h1, -⟩ | ⟨h1, -⟩ <;> omega
    have hst := St_of hr hv hl
    have hn0 : 0 < n := by have := hst.f.n; have := hst.e; obtain ⟨-, -, p3, -⟩ := mul_rng hst.f.z.a1 hst.f.z.a4 hst.f.z.b1 hst.f.z.b4 hst.f.z.c1 hst.f.z.c4; omega
    obtain ⟨bl, off, rfl, h2⟩ := fld_some (numsR_smR hr).1 h
    obtain ⟨pb, po', rfl, hp2⟩ : ∃ pb o, po = some ⟨pb, o, none⟩ ∧ LiesI w pb o l := by
      rcases hp with rfl | ⟨pb, o, rfl, hp⟩
      · simp at hl; omega
      · exact ⟨pb, o, rfl, hp⟩
    obtain ⟨N, hN⟩ := Int.eq_ofNat_of_zero_le (show 0 ≤ a * b * c by obtain ⟨-, -, p3, -⟩ := mul_rng hst.f.z.a1 hst.f.z.a4 hst.f.z.b1 hst.f.z.b4 hst.f.z.c1 hst.f.z.c4; omega)
    have H2 := Lib.hid h2
    have HP2 := Lib.hid hp2
    have c1 := fun (W : World) (h : Lies W bl off L) (h2 : LiesI W pb po' l) => start_ok a b c bl off cap pb po' pc n N L ns l W h h2 hl hr hv hN.symm hst.e
    have c2 := fun W : World => pWithin_any x 0 100 W false (.inr ⟨hx, rfl⟩)
    clear h hp h2 hp2 hr hv hl hst hN hx H HP
    go_enter Try.func27, Try.ntmps27
    go_wp2_with (first | ((with_reducible refine (c1 _ (H2.out.later (by repeat (first | (with_reducible exact Below.refl _ _) | (with_reducible refine Below.setCell ?_ ?_ _) | (with_reducible refine Below.drew ?_) | (with_reducible refine Below.alloc ?_ ?_ _) | omega | (simp <;> omega)))) (HP2.out.later (by repeat (first | (with_reducible exact Below.refl _ _) | (with_reducible refine Below.setCell ?_ ?_ _) | (with_reducible refine Below.drew ?_) | (with_reducible refine Below.alloc ?_ ?_ _) | omega | (simp <;> omega))))).mono ?_); clear c1; rintro e w1 ⟨⟨B, gl, gx, gp, gm, kl, kx, km, rfl, -, -⟩, hw1⟩; have hc1 := Tail.cells hw1; have s1 := hw1.size; simp at s1; have z1 : w.heap.size + 1 < w1.heap.size := (by omega); clear s1) | ((with_reducible refine (c2 _).mono ?_); clear c2; rintro e w2 ⟨rfl, rfl⟩))
    refine bodyPost_ret (v := .tuple #[.agg #[.int .i64 0, .int .i64 0, .int .i64 0, .slice none 0 0], .slice none 0 0, .int .i64 1]) (by simp [results, Try.results27, go_sem, hc1, z1]) rfl ⟨rfl, ?_⟩
    repeat (first | (with_reducible exact Below.refl _ _) | (with_reducible refine Below.setCell ?_ ?_ _) | (with_reducible refine Below.drew ?_) | (with_reducible refine Below.alloc ?_ ?_ _) | (with_reducible refine Below.trans ?_ (Below.mono hw1 ?_)) | (with_reducible exact hw1.size) | omega | (simp <;> omega) | (simp <;> (have s := hw1.size; omega)) | (have s0 := hw1.size; (try simp at s0); (try simp); omega))
set_option maxHeartbeats 6400000 in
theorem run_ok (a b c : Int) (bl off cap pb po pc n N x : Nat) (L : List Q) (l : List Int) (w : World) (h : Lies w bl off L) (hp : LiesI w pb po l) (hst : St a b c n L l) (hN : (N : Int) = a * b * c) (hx : x ≤ 100) : Calls Try.prog 27 #[.agg #[.int .i64 a, .int .i64 b, .int .i64 c, .slice (some ⟨bl, off, none⟩) L.length cap], .slice (some ⟨pb, po, none⟩) n pc, .int .i64 x] w fun e w' => RetRun a b c n w.heap.size (rn a b c (L, l) x) e w' ∧ Below w.heap.size w w' := by
  have H2 := Lib.hid h
  have HP2 := Lib.hid hp
  obtain ⟨hr, hv⟩ := St_nums hst
  have HST := Lib.hid hst
  have c1 := fun (W : World) (h : Lies W bl off L) (h2 : LiesI W pb po l) => start_ok a b c bl off cap pb po pc n N L _ l W h h2 hst.m hr hv hN hst.e
  have c2 := fun W : World => pWithin_any (x : Int) 0 100 W true (.inl ⟨by omega, by omega, rfl⟩)
  have HNN := Lib.hid hN
  have h48 : n ≤ 48 := by have := hst.f.n; have := hst.e; have := hst.f.z.p; omega
  clear h hp hr hv hst hN
  go_enter Try.func27, Try.ntmps27
  go_wp2_with (fail)
  refine (c1 _ (H2.out.later (by repeat (first | (with_reducible exact Below.refl _ _) | (with_reducible refine Below.setCell ?_ ?_ _) | (with_reducible refine Below.drew ?_) | (with_reducible refine Below.alloc ?_ ?_ _) | omega | (simp <;> omega)))) (HP2.out.later (by repeat (first | (with_reducible exact Below.refl _ _) | (with_reducible refine Below.setCell ?_ ?_ _) | (with_reducible refine Below.drew ?_) | (with_reducible refine Below.alloc ?_ ?_ _) | omega | (simp <;> omega))))).mono ?_
  clear c1
  rintro e w1 ⟨⟨B, gl, gx, gp, gm, kl, kx, km, rfl, hCO, hCM⟩, hw1⟩
  have R1 : FW w1 (w.heap.size + 1) 0 0 0 (.slice none 0 0) := by
    have r0 : FW ((w.alloc (.cells #[.int .i64 a, .int .i64 b, .int .i64 c, .slice (some ⟨bl, off, none⟩) L.length cap] 25)).alloc (.cells #[.int .i64 0, .int .i64 0, .int .i64 0, .slice none 0 0] 25)) (w.heap.size + 1) 0 0 0 (.slice none 0 0) := ⟨by simp [go_sem], by simp [go_sem], by simp [go_sem], by simp [go_sem], fun j => by simp [go_sem], by simp⟩
    exact r0.later hw1
  have b1 : Below w.heap.size w w1 := by repeat (first | (with_reducible exact Below.refl _ _) | (with_reducible refine Below.setCell ?_ ?_ _) | (with_reducible refine Below.drew ?_) | (with_reducible refine Below.alloc ?_ ?_ _) | (with_reducible refine Below.trans ?_ (Below.mono hw1 ?_)) | (with_reducible exact hw1.size) | omega | (simp <;> omega) | (simp <;> (have s := hw1.size; omega)) | (have s0 := hw1.size; (try simp at s0); (try simp); omega))
  have hm2 : ((w.alloc (.cells #[.int .i64 a, .int .i64 b, .int .i64 c, .slice (some ⟨bl, off, none⟩) L.length cap] 25)).alloc (.cells #[.int .i64 0, .int .i64 0, .int .i64 0, .slice none 0 0] 25)).heap.size = w.heap.size + 2 := by simp
  rw [hm2] at hCO hCM
  have HK1 : Hid (KS a b c n N w1 (w.heap.size + 2) B gl gx gp gm kl kx km (rn a b c (L, l) 0)) := Lib.hid ⟨hCO, hCM, HST.out⟩
  have HR1 := Lib.hid R1
  have HB1 := Lib.hid b1
  clear hCO hCM hw1 R1 b1 hm2
  go_wp2_with ((with_reducible refine (c2 _).mono ?_); clear c2; rintro e w2 ⟨rfl, rfl⟩)
  go_loopw [26] (fun q wr => ∃ k : Nat, k ≤ x ∧ q = .int .i64 k ∧ Hid (KS a b c n N wr (w.heap.size + 2) B gl gx gp gm kl kx km (rn a b c (L, l) k)) ∧ Hid (FW wr (w.heap.size + 1) 0 0 0 (.slice none 0 0)) ∧ Below w.heap.size w wr) (fun q _ => x - (intOf q).toNat)
  case atStart => exact ⟨0, by omega, rfl, HK1, HR1, HB1.out⟩
  case round =>
    obtain ⟨k, hk, rfl, hK, hR, hb⟩ := hrel
    clear HK1 HR1 HB1
    by_cases hlt : k < x
    · have i1 : (k : Int) < (x : Int) := by omega
      have c3 := step_any a b c n N _ _ B gl gx gp gm kl kx km _ hK.out HNN.out
      go_wp2_with (fail)
      refine c3.mono ?_
      clear c3
      rintro e w3 ⟨rfl, hk3, hb3⟩
      have HK3 : Hid (KS a b c n N w3 (w.heap.size + 2) B gl gx gp gm kl kx km (rn a b c (L, l) (k + 1))) := Lib.hid hk3
      have HR3 : Hid (FW w3 (w.heap.size + 1) 0 0 0 (.slice none 0 0)) := Lib.hid ⟨(hb3.cell (by show w.heap.size + 1 < w.heap.size + 2; omega)).trans hR.out.c0, (hb3.cell (by show w.heap.size + 1 < w.heap.size + 2; omega)).trans hR.out.c1, (hb3.cell (by show w.heap.size + 1 < w.heap.size + 2; omega)).trans hR.out.c2, (hb3.cell (by show w.heap.size + 1 < w.heap.size + 2; omega)).trans hR.out.c3, fun j => (hb3.frozen (p := ⟨w.heap.size + 1, j, none⟩) (by show w.heap.size + 1 < w.heap.size + 2; omega)).trans (hR.out.free j), Nat.lt_of_lt_of_le hR.out.lt hb3.size⟩
      have hb4 : Below w.heap.size w w3 := hb.trans (hb3.mono (by omega))
      clear hk3 hb3 hK hR
      go_wp2
      exact ⟨⟨k + 1, by omega, by go_num, HK3, HR3, hb4⟩, by simp [intOf]; omega⟩
    · obtain rfl : k = x := by omega
      have hst := HST.out.rn k
      have c4 := end_ok a b c n N _ _ B gl gx gp gm kl kx km _ _ hK.out.co hK.out.cm HST.out.f.z (by have := HST.out.f.n; have := HST.out.e; omega) h48 hst.s hst.e
      have hmi := hK.out.cm.mi
      have hmm := hK.out.cm.mm
      have hbs := hb.size
      have hK' := hmi
      have HMI := Lib.hid hmi
      clear hmi hK' hst
      go_wp2_with (fail)
      refine c4.mono ?_
      clear c4
      rintro e w4 ⟨⟨g, kg, rfl, hlb, hg⟩, hw4⟩
      obtain ⟨d0, d1, d2, d3, df, dl⟩ := hR.out.later hw4
      have hmi4 := HMI.out.later hw4
      have hgl := HMI.out.lt
      have b4 : Below w.heap.size w w4 := by repeat (first | (with_reducible exact Below.refl _ _) | (with_reducible refine Below.setCell ?_ ?_ _) | (with_reducible refine Below.drew ?_) | (with_reducible refine Below.alloc ?_ ?_ _) | (with_reducible refine Below.trans ?_ (Below.mono hw4 ?_)) | (with_reducible refine Below.trans ?_ (Below.mono hb ?_)) | (with_reducible exact hw4.size) | (with_reducible exact hb.size) | omega | (simp <;> omega) | (simp <;> (have s := hw4.size; omega)) | (simp <;> (have s := hb.size; omega)) | (have s0 := hw4.size; (try simp at s0); have s1 := hb.size; (try simp at s1); (try simp); omega))
      clear hw4 hK hR
      go_wp2
      have Gs := grown_setCells (w.heap.size + 1) [.int .i64 a, .int .i64 b, .int .i64 c, .slice (some ⟨g, 0, none⟩) n kg] 0 w4
      refine bodyPost_ret (v := .tuple #[.agg #[.int .i64 a, .int .i64 b, .int .i64 c, .slice (some ⟨g, 0, none⟩) n kg], .slice (some ⟨gm, 0, none⟩) n km, .int .i64 0]) (by simp [results, Try.results27, go_sem, d0, d1, d2, d3, dl]) rfl ⟨⟨g, kg, gm, km, rfl, ?_, ?_, by omega, by omega, by omega⟩, ?_⟩
      · exact hlb.grown Gs (by simp; omega)
      · exact hmi4.grown Gs (by simp; omega)
      · repeat (first | (with_reducible exact Below.refl _ _) | (with_reducible refine Below.setCell ?_ ?_ _) | (with_reducible refine Below.drew ?_) | (with_reducible refine Below.alloc ?_ ?_ _) | (with_reducible refine Below.trans ?_ (Below.mono b4 ?_)) | (with_reducible exact b4.size) | omega | (simp <;> omega) | (simp <;> (have s := b4.size; omega)) | (have s0 := b4.size; (try simp at s0); (try simp); omega))
end Go.Proofs.Ytilbhcjnkmeecaa
