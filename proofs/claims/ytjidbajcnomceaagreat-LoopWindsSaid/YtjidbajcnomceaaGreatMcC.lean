/- Means around the torus in a direction, as the program and the document's answers make them.
Conditions: the lists lie in memory as it is written at each theorem. -/
import Derived.Test.YtjidbajcnomceaaGreatLzC
import Derived.Test.YtjidbajcnomceaaGreatMaC
import Derived.Test.YtjidbajcnomceaaGreatGetL
namespace Go.Proofs.YtjidbajcnomceaaGreat
set_option linter.unusedVariables false
set_option linter.unusedSimpArgs false
set_option maxRecDepth 1000000
open Go.RowKit
open Um Tm Lm

theorem belDM {w w1 : World} (h : Below w.drew.heap.size w.drew w1) : Below w.heap.size w w1 := ⟨h.os, h.tape, h.output, h.size, h.block⟩
theorem held_belowM {W W1 : World} {b i : Nat} {v : Value} (h : Below W.heap.size W W1) (hc : W.cell? ⟨b, i, none⟩ = some v) : W1.cell? ⟨b, i, none⟩ = some v := (h.cell (World.block_lt_of_cell? W _ hc)).trans hc
theorem rep_steps {t : Int} (n : Nat) (ht : IsStep t) : ∀ s ∈ List.replicate n t, IsStep s := fun s hs => by rw [(List.mem_replicate.1 hs).2]; exact ht
set_option maxHeartbeats 1600000 in
theorem polyakov_bad (a b c d r : Int) (ao : Option Addr) (cap : Nat) (L : List Q) (w : World) (h : LiesO w ao L) (hr : lnR a b c L 0 d r) (h0 : r ≠ 0) (hlen : L.length ≤ 1000000) : Calls Tryz.prog 23 #[.agg #[.int .i64 a, .int .i64 b, .int .i64 c, .slice ao L.length cap], .int .i64 d] w fun e w' => e = .returned (.tuple #[z2, .int .i64 r]) ∧ Below w.heap.size w w' := by
  have q1 : (r == 0) = false := by simpa using h0
  have q2 : (r != 0) = true := by simpa using h0
  have c1 := fun (W : World) (h : LiesO W ao L) => get_bad a b c 0 d r ao cap L W h hr h0 hlen
  have H := Lib.hid h
  clear h hr h0
  go_enter Tryz.func23, Tryz.ntmps23
  go_wp2_with (fail)
  refine (c1 _ (H.out.later (by repeat (first | (with_reducible exact Below.refl _ _) | (with_reducible refine Below.setCell ?_ ?_ _) | (with_reducible refine Below.drew ?_) | (with_reducible refine Below.alloc ?_ ?_ _) | omega | (simp <;> omega))))).mono ?_
  rintro e w1 ⟨rfl, hw1⟩
  have hc1 := Tail.cells hw1
  have zw10 := Nat.lt_of_lt_of_le (n := w.heap.size) (by simp <;> omega) hw1.size; have zw11 := Nat.lt_of_lt_of_le (n := w.heap.size + 1) (by simp <;> omega) hw1.size
  go_wp2
  refine bodyPost_ret (v := .tuple #[z2, .int .i64 r]) ?_ rfl ⟨rfl, ?_⟩
  · simp [results, Tryz.results23, go_sem, hc1, zw10, zw11, z2]
  · repeat (first | (with_reducible exact Below.refl _ _) | (with_reducible refine Below.setCell ?_ ?_ _) | (with_reducible refine Below.drew ?_) | (with_reducible refine Below.alloc ?_ ?_ _) | (with_reducible refine Below.trans ?_ (Below.mono hw1 ?_)) | (with_reducible exact hw1.size) | omega | (simp <;> omega) | (simp <;> (have s := hw1.size; omega)) | (have s0 := hw1.size; (try simp at s0); (try simp); omega))
set_option maxHeartbeats 1600000 in
theorem refPolyakov_bad (a b c r d : Int) (ao : Option Addr) (cap : Nat) (L : List Q) (w : World) (h : LiesO w ao L) (hr : fldR a b c L r) (h0 : r ≠ 0) (hlen : L.length ≤ 1000000) : Calls Tryz.prog 24 #[.agg #[.int .i64 a, .int .i64 b, .int .i64 c, .slice ao L.length cap], .int .i64 d] w fun e w' => e = .returned (.tuple #[z2, .int .i64 r]) ∧ Below w.heap.size w w' := by
  have q1 : (r == 0) = false := by simpa using h0
  have q2 : (r != 0) = true := by simpa using h0
  have c1 := fun (W : World) (h : LiesO W ao L) => refValidateF_any a b c r ao cap L W h hr hlen
  have H := Lib.hid h
  clear h hr h0
  go_enter Tryz.func24, Tryz.ntmps24
  go_wp2_with (fail)
  refine (c1 _ (H.out.later (by repeat (first | (with_reducible exact Below.refl _ _) | (with_reducible refine Below.setCell ?_ ?_ _) | (with_reducible refine Below.drew ?_) | (with_reducible refine Below.alloc ?_ ?_ _) | omega | (simp <;> omega))))).mono ?_
  rintro e w1 ⟨rfl, hw1⟩
  have hc1 := Tail.cells hw1
  have zw10 := Nat.lt_of_lt_of_le (n := w.heap.size) (by simp <;> omega) hw1.size; have zw11 := Nat.lt_of_lt_of_le (n := w.heap.size + 1) (by simp <;> omega) hw1.size
  go_wp2
  refine bodyPost_ret (v := .tuple #[z2, .int .i64 r]) ?_ rfl ⟨rfl, ?_⟩
  · simp [results, Tryz.results24, go_sem, hc1, zw10, zw11, z2]
  · repeat (first | (with_reducible exact Below.refl _ _) | (with_reducible refine Below.setCell ?_ ?_ _) | (with_reducible refine Below.drew ?_) | (with_reducible refine Below.alloc ?_ ?_ _) | (with_reducible refine Below.trans ?_ (Below.mono hw1 ?_)) | (with_reducible exact hw1.size) | omega | (simp <;> omega) | (simp <;> (have s := hw1.size; omega)) | (have s0 := hw1.size; (try simp at s0); (try simp); omega))
set_option maxHeartbeats 1600000 in
theorem refPolyakov_arg (a b c d : Int) (ao : Option Addr) (cap : Nat) (L : List Q) (w : World) (h : LiesO w ao L) (hr : fldR a b c L 0) (hd : ¬ (0 ≤ d ∧ d ≤ 2)) (hlen : L.length ≤ 1000000) : Calls Tryz.prog 24 #[.agg #[.int .i64 a, .int .i64 b, .int .i64 c, .slice ao L.length cap], .int .i64 d] w fun e w' => e = .returned (.tuple #[z2, .int .i64 1]) ∧ Below w.heap.size w w' := by
  have c1 := fun (W : World) (h : LiesO W ao L) => refValidateF_any a b c 0 ao cap L W h hr hlen
  have c2 := fun W => within3_any d 0 2 W false (.inr ⟨hd, rfl⟩)
  have H := Lib.hid h
  clear h hr hd
  go_enter Tryz.func24, Tryz.ntmps24
  go_wp2_with (fail)
  refine (c1 _ (H.out.later (by repeat (first | (with_reducible exact Below.refl _ _) | (with_reducible refine Below.setCell ?_ ?_ _) | (with_reducible refine Below.drew ?_) | (with_reducible refine Below.alloc ?_ ?_ _) | omega | (simp <;> omega))))).mono ?_
  rintro e w1 ⟨rfl, hw1⟩
  have hc1 := Tail.cells hw1
  have zw10 := Nat.lt_of_lt_of_le (n := w.heap.size) (by simp <;> omega) hw1.size; have zw11 := Nat.lt_of_lt_of_le (n := w.heap.size + 1) (by simp <;> omega) hw1.size
  go_wp2_with (fail)
  refine (c2 _).mono ?_
  rintro e wx ⟨rfl, rfl⟩
  go_wp2
  refine bodyPost_ret (v := .tuple #[z2, .int .i64 1]) ?_ rfl ⟨rfl, ?_⟩
  · simp [results, Tryz.results24, go_sem, hc1, zw10, zw11, z2]
  · repeat (first | (with_reducible exact Below.refl _ _) | (with_reducible refine Below.setCell ?_ ?_ _) | (with_reducible refine Below.drew ?_) | (with_reducible refine Below.alloc ?_ ?_ _) | (with_reducible refine Below.trans ?_ (Below.mono hw1 ?_)) | (with_reducible exact hw1.size) | omega | (simp <;> omega) | (simp <;> (have s := hw1.size; omega)) | (have s0 := hw1.size; (try simp at s0); (try simp); omega))

theorem wind_clo0 (a b c : Int) (h : Sz a b c) : Clo a b c (List.replicate a.toNat (1 : Int)) := by
  have e1 := sm_rep 1 1 a.toNat
  have e2 := sm_rep 2 1 a.toNat
  have e3 := sm_rep 3 1 a.toNat
  have hn : ((a.toNat : Nat) : Int) = a := Int.toNat_of_nonneg (by have := h.a1; omega)
  rw [hn] at e1 e2 e3
  refine ⟨?_, ?_, ?_⟩
  · rw [e1]; simp [dlt]
  · rw [e2]; simp [dlt]
  · rw [e3]; simp [dlt]
set_option maxHeartbeats 3200000 in
theorem polyakov_ok0 (a b c : Int) (bl off cap N : Nat) (L : List Q) (w : World) (hl : Lies w bl off L) (hF : Fl a b c L) (hN : (N : Int) = a * b * c) : Calls Tryz.prog 23 #[.agg #[.int .i64 a, .int .i64 b, .int .i64 c, .slice (some ⟨bl, off, none⟩) L.length cap], .int .i64 0] w fun e w' => e = .returned (.tuple #[.agg #[.int .i64 ((meanR (tl a b c L (List.replicate a.toNat 1) N))).1, .int .i64 ((meanR (tl a b c L (List.replicate a.toNat 1) N))).2], .int .i64 0]) ∧ Below w.heap.size w w' := by
  have hz := hF.z
  have hp1 : 0 < a * b * c := by obtain ⟨-, -, p3, -⟩ := mul_rng hz.a1 hz.a4 hz.b1 hz.b4 hz.c1 hz.c4; omega
  have c1 := fun (W : World) (h : Lies W bl off L) => get_ok a b c 0 0 bl off cap L W h (.inr (.inr (.inr ⟨Fl_fldR hF, by omega, hp1, by omega, by omega, rfl⟩))) hF (by omega) hp1 (by omega) (by omega)
  have cS : ∀ W : World, Calls Tryz.prog 45 #[.int .i64 1, .int .i64 a] W fun e w' => ∃ g, e = .returned (.slice (some ⟨g, 0, none⟩) (List.replicate a.toNat (1 : Int)).length a.toNat) ∧ LiesOI w' (some ⟨g, 0, none⟩) (List.replicate a.toNat 1) ∧ Below W.heap.size W w' := fun W => (straight_any 1 a W hz.a1 hz.a4).mono fun e w' ⟨g, he, hl, hb⟩ => ⟨g, by rw [List.length_replicate]; exact he, hl.o, hb⟩
  have cM := fun (g : Nat) (W : World) (h : Lies W bl off L) (hp : LiesOI W (some ⟨g, 0, none⟩) (List.replicate a.toNat 1)) => meanAlong_ok a b c bl off cap a.toNat N (some ⟨g, 0, none⟩) L (List.replicate a.toNat 1) W h hp hF hN (rep_steps _ ⟨by omega, by omega, by omega⟩) (by rw [List.length_replicate]; have := hz.a4; omega) (wind_clo0 a b c hz)
  have H := Lib.hid hl
  generalize a.toNat = nS at *
  clear hl hF hN hz hp1
  generalize List.replicate nS (1 : Int) = p at *
  generalize meanR (tl a b c L p N) = z at *
  generalize lk L (3 * 0 + 0) = x at *
  go_enter Tryz.func23, Tryz.ntmps23
  have f0 : FW ((w.alloc (.cells #[.int .i64 a, .int .i64 b, .int .i64 c, .slice (some ⟨bl, off, none⟩) L.length cap] 25)).alloc (.cells #[.int .i64 0, .int .i64 0] 32)) w.heap.size a b c (.slice (some ⟨bl, off, none⟩) L.length cap) := FW.n2a
  have r0 : RB ((w.alloc (.cells #[.int .i64 a, .int .i64 b, .int .i64 c, .slice (some ⟨bl, off, none⟩) L.length cap] 25)).alloc (.cells #[.int .i64 0, .int .i64 0] 32)) (w.heap.size + 1) (0, 0) := ⟨by simp [go_sem], by simp [go_sem], fun j => by simp [go_sem], by simp <;> omega⟩
  have F0 := Lib.hid f0
  have R0 := Lib.hid r0
  clear f0 r0
  go_wp2_with (fail)
  refine (c1 _ (H.out.later (by repeat (first | (with_reducible exact Below.refl _ _) | (with_reducible refine Below.setCell ?_ ?_ _) | (with_reducible refine Below.drew ?_) | (with_reducible refine Below.alloc ?_ ?_ _) | omega | (simp <;> omega))))).mono ?_
  rintro e w1 ⟨rfl, hw1⟩
  have F1 := Lib.hid ((F0.out.later hw1).later (ba1 (o := .cells #[.int .i64 x.a, .int .i64 x.b, .int .i64 x.c, .int .i64 x.d, .int .i64 x.n] 62)))
  have R1 := Lib.hid ((R0.out.later hw1).later (ba1 (o := .cells #[.int .i64 x.a, .int .i64 x.b, .int .i64 x.c, .int .i64 x.d, .int .i64 x.n] 62)))
  have b1 : Below w.heap.size w (w1.alloc (.cells #[.int .i64 x.a, .int .i64 x.b, .int .i64 x.c, .int .i64 x.d, .int .i64 x.n] 62)) := by repeat (first | (with_reducible exact Below.refl _ _) | (with_reducible refine Below.setCell ?_ ?_ _) | (with_reducible refine Below.drew ?_) | (with_reducible refine Below.alloc ?_ ?_ _) | (with_reducible refine Below.trans ?_ (Below.mono hw1 ?_)) | (with_reducible exact hw1.size) | omega | (simp <;> omega) | (simp <;> (have s := hw1.size; omega)) | (have s0 := hw1.size; (try simp at s0); (try simp); omega))
  clear hw1 F0 R0 c1
  obtain ⟨f0, f1, f2, f3, ff, fl⟩ := F1.out
  go_wp2
  clear F1
  generalize w1.alloc (.cells #[.int .i64 x.a, .int .i64 x.b, .int .i64 x.c, .int .i64 x.d, .int .i64 x.n] 62) = Z at *
  generalize w1.heap.size = gz at *
  have hZ := b1.size
  have qw : IntKind.i64.wrap 1 = 1 := by decide
  have K5 : Hid (∀ w' : World, Below Z.heap.size Z w' → (w'.cell? ⟨w.heap.size, 0, none⟩ = some (.int .i64 a) ∧ w'.cell? ⟨w.heap.size, 1, none⟩ = some (.int .i64 b) ∧ w'.cell? ⟨w.heap.size, 2, none⟩ = some (.int .i64 c) ∧ w'.cell? ⟨w.heap.size, 3, none⟩ = some (.slice (some ⟨bl, off, none⟩) L.length cap))) := Lib.hid (fun w' h => ⟨held_belowM h f0, held_belowM h f1, held_belowM h f2, held_belowM h f3⟩)
  go_region_held3 (fun w' => w'.cell? ⟨w.heap.size, 0, none⟩ = some (.int .i64 a) ∧ w'.cell? ⟨w.heap.size, 1, none⟩ = some (.int .i64 b) ∧ w'.cell? ⟨w.heap.size, 2, none⟩ = some (.int .i64 c) ∧ w'.cell? ⟨w.heap.size, 3, none⟩ = some (.slice (some ⟨bl, off, none⟩) L.length cap))
    (first
      | go_keep
      | (exact K5.out _ (Below.refl _ _))
      | (exact K5.out _ hw2)
      | (exact K5.out _ (belDM hw2))
      | (exact K5.out _ (hw2.trans (hw3.mono hw2.size)))
      | (exact K5.out _ ((belDM hw2).trans (hw3.mono hw2.size)))
      | (exact K5.out _ ((belDM hw2).trans ((belDM hw3).mono hw2.size))))
    (first
      | ((with_reducible refine (cS _).mono ?_); rintro e w2 ⟨g, rfl, hp, hw2⟩; have HP := Lib.hid hp; clear hp)
      | ((with_reducible refine (cM _ _ (H.out.later (b1.trans (hw2.mono hZ))) HP.out).mono ?_); rintro e w3 ⟨rfl, hw3⟩; obtain ⟨rc0, rc1, rf, rl⟩ := (R1.out.later hw2).later hw3)
      | ((with_reducible refine (cM _ _ (H.out.later (b1.trans ((belDM hw2).mono hZ))) HP.out).mono ?_); rintro e w3 ⟨rfl, hw3⟩; obtain ⟨rc0, rc1, rf, rl⟩ := (R1.out.later (belDM hw2)).later hw3))
  all_goals
    go_wp2
    refine bodyPost_ret (v := .tuple #[.agg #[.int .i64 (z).1, .int .i64 (z).2], .int .i64 0]) ?_ rfl ⟨rfl, ?_⟩
    · simp [results, Tryz.results23, go_sem, rc0, rc1, rl]
    · first
        | exact Below.setCell (Below.setCell (b1.trans (((belDM hw2).trans (hw3.mono hw2.size)).mono hZ)) (by simp) _) (by simp) _
        | exact Below.setCell (Below.setCell (b1.trans ((hw2.trans (hw3.mono hw2.size)).mono hZ)) (by simp) _) (by simp) _
set_option maxHeartbeats 3200000 in
theorem refPolyakov_ok0 (a b c : Int) (bl off cap N : Nat) (L : List Q) (w : World) (hl : Lies w bl off L) (hF : Fl a b c L) (hN : (N : Int) = a * b * c) : Calls Tryz.prog 24 #[.agg #[.int .i64 a, .int .i64 b, .int .i64 c, .slice (some ⟨bl, off, none⟩) L.length cap], .int .i64 0] w fun e w' => e = .returned (.tuple #[.agg #[.int .i64 ((meanR (tl a b c L (List.replicate a.toNat 1) N))).1, .int .i64 ((meanR (tl a b c L (List.replicate a.toNat 1) N))).2], .int .i64 0]) ∧ Below w.heap.size w w' := by
  have hz := hF.z
  have hs1 := hz.a1
  have hs4 := hz.a4
  have c1 := fun (W : World) (h : Lies W bl off L) => refValidateF_any a b c 0 (some ⟨bl, off, none⟩) cap L W (.inr ⟨bl, off, rfl, h⟩) (Fl_fldR hF) (by have := fld_len (Fl_fldR hF); omega)
  have c2 := fun W => within3_any 0 0 2 W true (.inl ⟨by omega, by omega, rfl⟩)
  have cM := fun (ao : Option Addr) (pc : Nat) (W : World) (h : Lies W bl off L) (hp : LiesOI W ao (List.replicate a.toNat 1)) => over_ok a b c bl off cap pc N ao L (List.replicate a.toNat 1) W h hp hF hN (rep_steps _ ⟨by omega, by omega, by omega⟩) (by rw [List.length_replicate]; omega)
  have H := Lib.hid hl
  obtain ⟨i0, hi, hz0, hz1, hz2⟩ := info_parts infoI
  clear hl hF hN hz
  generalize meanR (tl a b c L (List.replicate a.toNat 1) N) = z at *
  obtain ⟨n, hn⟩ : ∃ n : Nat, a = n := ⟨a.toNat, by omega⟩
  rw [show a.toNat = n by omega] at cM
  have HN := Lib.hid hn
  clear hn
  have CM := Lib.hid cM
  clear cM
  go_enter Tryz.func24, Tryz.ntmps24
  have f0 : FW ((w.alloc (.cells #[.int .i64 a, .int .i64 b, .int .i64 c, .slice (some ⟨bl, off, none⟩) L.length cap] 25)).alloc (.cells #[.int .i64 0, .int .i64 0] 32)) w.heap.size a b c (.slice (some ⟨bl, off, none⟩) L.length cap) := FW.n2a
  have r0 : RB ((w.alloc (.cells #[.int .i64 a, .int .i64 b, .int .i64 c, .slice (some ⟨bl, off, none⟩) L.length cap] 25)).alloc (.cells #[.int .i64 0, .int .i64 0] 32)) (w.heap.size + 1) (0, 0) := ⟨by simp [go_sem], by simp [go_sem], fun j => by simp [go_sem], by simp <;> omega⟩
  have F0 := Lib.hid f0
  have R0 := Lib.hid r0
  clear f0 r0
  go_wp2_with (fail)
  refine (c1 _ (H.out.later (by repeat (first | (with_reducible exact Below.refl _ _) | (with_reducible refine Below.setCell ?_ ?_ _) | (with_reducible refine Below.drew ?_) | (with_reducible refine Below.alloc ?_ ?_ _) | omega | (simp <;> omega))))).mono ?_
  rintro e w1 ⟨rfl, hw1⟩
  have F1 := Lib.hid (F0.out.later hw1)
  have R1 := Lib.hid (R0.out.later hw1)
  have b1 : Below w.heap.size w w1 := by repeat (first | (with_reducible exact Below.refl _ _) | (with_reducible refine Below.setCell ?_ ?_ _) | (with_reducible refine Below.drew ?_) | (with_reducible refine Below.alloc ?_ ?_ _) | (with_reducible refine Below.trans ?_ (Below.mono hw1 ?_)) | (with_reducible exact hw1.size) | omega | (simp <;> omega) | (simp <;> (have s := hw1.size; omega)) | (have s0 := hw1.size; (try simp at s0); (try simp); omega))
  clear hw1 F0 R0 c1
  go_wp2_with (fail)
  refine (c2 _).mono ?_
  rintro e wx ⟨rfl, rfl⟩
  go_wp2
  have hs1' := b1.size
  have sz := (F1.out).lt
  have sr := (R1.out).lt
  go_loopw [7, 8] (fun f q wr => ∃ (k : Nat) (v : Value), k ≤ n ∧ q = .int .i64 k ∧ v = f ∧ Hid (wr.ownsRow w1.heap.size 3 1 v k ((List.replicate k (1 : Int)).map vi)) ∧ Hid (FW wr w.heap.size a b c (.slice (some ⟨bl, off, none⟩) L.length cap)) ∧ Hid (RB wr (w.heap.size + 1) (0, 0)) ∧ Below w1.heap.size w1 wr) (fun _ q _ => n - (intOf q).toNat)
  case atStart => exact ⟨0, _, by omega, rfl, rfl, Lib.hid (World.ownsRow_nil _ _ _ _), F1, R1, Below.refl _ _⟩
  case round =>
    obtain ⟨k, v, hk, rfl, rfl, hown, hf, hr, hb⟩ := hrel
    clear F1 R1
    have hbs := hb.size
    obtain ⟨f0, f1, f2, f3, ff, fl⟩ := hf.out
    by_cases hlt : k < n
    · have i1 : (k : Int) < a := by have := HN.out; omega
      have k5 : k ≤ 1000 := by have := HN.out; omega
      go_wp2_with (at_builtin; refine wpList_append_own _ rfl (.tmp 27) (.tmp 30) 26 rfl w1.heap.size 3 i0 _ 1 8 Tryz.underlying26 hi hz0 hz1 hz2 rfl (by decide) v k ((List.replicate k (1 : Int)).map vi) rfl (hown.out.alloc _) ⟨wr.heap.size, 0, none⟩ 1 1 [vi (1)] rfl rfl (one_cell (by simp [go_sem, vi])) (one_one _) (by unfold maxLen; omega) (by omega) (by simp <;> omega) ?_; intro v' w4 hown4 hgrow4 _)
      have hfr := owned_from hown.out
      have hb4 := (hb.alloc hbs _).grown hgrow4 (by simp <;> omega) (fun j hj => by have := hfr j hj; omega)
      have hf4 := Lib.hid ((hf.out.later ba1).grown hgrow4 (by have := hfr w.heap.size; intro h; have := this h.symm; omega))
      have hr4 := Lib.hid ((hr.out.later ba1).farZ hgrow4 (by have := hfr (w.heap.size + 1); intro h; have := this h.symm; omega))
      have ho : w4.ownsRow w1.heap.size 3 1 v' (k + 1) ((List.replicate (k + 1) (1 : Int)).map vi) := by rw [List.replicate_succ', List.map_append]; exact hown4
      clear hown4 hgrow4 hown hf hr f0 f1 f2 f3 ff fl
      go_wp2
      exact ⟨⟨k + 1, _, by omega, by go_num, rfl, Lib.hid ho, hf4, hr4, hb4⟩, by simp [intOf]; omega⟩
    · have i1 : ¬ (k : Int) < a := by have := HN.out; omega
      obtain rfl : n = k := by omega
      have ho : wr.ownsRow w1.heap.size 3 1 v (List.replicate n (1 : Int)).length ((List.replicate n (1 : Int)).map vi) := by rw [List.length_replicate]; exact hown.out
      obtain ⟨ao, cv, rfl, hp⟩ := owned_liesOI ho
      have HP := Lib.hid hp
      have cM := fun W h hp => CM.out ao cv W h hp
      have b2 : Below w.heap.size w wr := b1.trans (hb.mono hs1')
      clear hown ho hp
      simp only [List.length_replicate] at cM ⊢
      go_wp2_with (fail)
      refine (cM _ (H.out.later b2) HP.out).mono ?_
      rintro e w6 ⟨rfl, hw6⟩
      obtain ⟨g0, g1, gf, gl⟩ := hr.out.later hw6
      go_wp2
      refine bodyPost_ret (v := .tuple #[.agg #[.int .i64 (z).1, .int .i64 (z).2], .int .i64 0]) ?_ rfl ⟨rfl, ?_⟩
      · simp [results, Tryz.results24, go_sem, g0, g1, gl]
      · repeat (first | (with_reducible exact Below.refl _ _) | (with_reducible refine Below.setCell ?_ ?_ _) | (with_reducible refine Below.drew ?_) | (with_reducible refine Below.alloc ?_ ?_ _) | (with_reducible refine Below.trans ?_ (Below.mono hw6 ?_)) | (with_reducible refine Below.trans ?_ (Below.mono b2 ?_)) | (with_reducible exact hw6.size) | (with_reducible exact b2.size) | omega | (simp <;> omega) | (simp <;> (have s := hw6.size; omega)) | (simp <;> (have s := b2.size; omega)) | (have s0 := hw6.size; (try simp at s0); have s1 := b2.size; (try simp at s1); (try simp); omega))

theorem wind_clo1 (a b c : Int) (h : Sz a b c) : Clo a b c (List.replicate b.toNat (2 : Int)) := by
  have e1 := sm_rep 1 2 b.toNat
  have e2 := sm_rep 2 2 b.toNat
  have e3 := sm_rep 3 2 b.toNat
  have hn : ((b.toNat : Nat) : Int) = b := Int.toNat_of_nonneg (by have := h.b1; omega)
  rw [hn] at e1 e2 e3
  refine ⟨?_, ?_, ?_⟩
  · rw [e1]; simp [dlt]
  · rw [e2]; simp [dlt]
  · rw [e3]; simp [dlt]
set_option maxHeartbeats 3200000 in
theorem polyakov_ok1 (a b c : Int) (bl off cap N : Nat) (L : List Q) (w : World) (hl : Lies w bl off L) (hF : Fl a b c L) (hN : (N : Int) = a * b * c) : Calls Tryz.prog 23 #[.agg #[.int .i64 a, .int .i64 b, .int .i64 c, .slice (some ⟨bl, off, none⟩) L.length cap], .int .i64 1] w fun e w' => e = .returned (.tuple #[.agg #[.int .i64 ((meanR (tl a b c L (List.replicate b.toNat 2) N))).1, .int .i64 ((meanR (tl a b c L (List.replicate b.toNat 2) N))).2], .int .i64 0]) ∧ Below w.heap.size w w' := by
  have hz := hF.z
  have hp1 : 0 < a * b * c := by obtain ⟨-, -, p3, -⟩ := mul_rng hz.a1 hz.a4 hz.b1 hz.b4 hz.c1 hz.c4; omega
  have c1 := fun (W : World) (h : Lies W bl off L) => get_ok a b c 0 1 bl off cap L W h (.inr (.inr (.inr ⟨Fl_fldR hF, by omega, hp1, by omega, by omega, rfl⟩))) hF (by omega) hp1 (by omega) (by omega)
  have cS : ∀ W : World, Calls Tryz.prog 45 #[.int .i64 2, .int .i64 b] W fun e w' => ∃ g, e = .returned (.slice (some ⟨g, 0, none⟩) (List.replicate b.toNat (2 : Int)).length b.toNat) ∧ LiesOI w' (some ⟨g, 0, none⟩) (List.replicate b.toNat 2) ∧ Below W.heap.size W w' := fun W => (straight_any 2 b W hz.b1 hz.b4).mono fun e w' ⟨g, he, hl, hb⟩ => ⟨g, by rw [List.length_replicate]; exact he, hl.o, hb⟩
  have cM := fun (g : Nat) (W : World) (h : Lies W bl off L) (hp : LiesOI W (some ⟨g, 0, none⟩) (List.replicate b.toNat 2)) => meanAlong_ok a b c bl off cap b.toNat N (some ⟨g, 0, none⟩) L (List.replicate b.toNat 2) W h hp hF hN (rep_steps _ ⟨by omega, by omega, by omega⟩) (by rw [List.length_replicate]; have := hz.b4; omega) (wind_clo1 a b c hz)
  have H := Lib.hid hl
  generalize b.toNat = nS at *
  clear hl hF hN hz hp1
  generalize List.replicate nS (2 : Int) = p at *
  generalize meanR (tl a b c L p N) = z at *
  generalize lk L (3 * 0 + 1) = x at *
  go_enter Tryz.func23, Tryz.ntmps23
  have f0 : FW ((w.alloc (.cells #[.int .i64 a, .int .i64 b, .int .i64 c, .slice (some ⟨bl, off, none⟩) L.length cap] 25)).alloc (.cells #[.int .i64 0, .int .i64 0] 32)) w.heap.size a b c (.slice (some ⟨bl, off, none⟩) L.length cap) := FW.n2a
  have r0 : RB ((w.alloc (.cells #[.int .i64 a, .int .i64 b, .int .i64 c, .slice (some ⟨bl, off, none⟩) L.length cap] 25)).alloc (.cells #[.int .i64 0, .int .i64 0] 32)) (w.heap.size + 1) (0, 0) := ⟨by simp [go_sem], by simp [go_sem], fun j => by simp [go_sem], by simp <;> omega⟩
  have F0 := Lib.hid f0
  have R0 := Lib.hid r0
  clear f0 r0
  go_wp2_with (fail)
  refine (c1 _ (H.out.later (by repeat (first | (with_reducible exact Below.refl _ _) | (with_reducible refine Below.setCell ?_ ?_ _) | (with_reducible refine Below.drew ?_) | (with_reducible refine Below.alloc ?_ ?_ _) | omega | (simp <;> omega))))).mono ?_
  rintro e w1 ⟨rfl, hw1⟩
  have F1 := Lib.hid ((F0.out.later hw1).later (ba1 (o := .cells #[.int .i64 x.a, .int .i64 x.b, .int .i64 x.c, .int .i64 x.d, .int .i64 x.n] 62)))
  have R1 := Lib.hid ((R0.out.later hw1).later (ba1 (o := .cells #[.int .i64 x.a, .int .i64 x.b, .int .i64 x.c, .int .i64 x.d, .int .i64 x.n] 62)))
  have b1 : Below w.heap.size w (w1.alloc (.cells #[.int .i64 x.a, .int .i64 x.b, .int .i64 x.c, .int .i64 x.d, .int .i64 x.n] 62)) := by repeat (first | (with_reducible exact Below.refl _ _) | (with_reducible refine Below.setCell ?_ ?_ _) | (with_reducible refine Below.drew ?_) | (with_reducible refine Below.alloc ?_ ?_ _) | (with_reducible refine Below.trans ?_ (Below.mono hw1 ?_)) | (with_reducible exact hw1.size) | omega | (simp <;> omega) | (simp <;> (have s := hw1.size; omega)) | (have s0 := hw1.size; (try simp at s0); (try simp); omega))
  clear hw1 F0 R0 c1
  obtain ⟨f0, f1, f2, f3, ff, fl⟩ := F1.out
  go_wp2
  clear F1
  generalize w1.alloc (.cells #[.int .i64 x.a, .int .i64 x.b, .int .i64 x.c, .int .i64 x.d, .int .i64 x.n] 62) = Z at *
  generalize w1.heap.size = gz at *
  have hZ := b1.size
  have qw : IntKind.i64.wrap 2 = 2 := by decide
  have K5 : Hid (∀ w' : World, Below Z.heap.size Z w' → (w'.cell? ⟨w.heap.size, 0, none⟩ = some (.int .i64 a) ∧ w'.cell? ⟨w.heap.size, 1, none⟩ = some (.int .i64 b) ∧ w'.cell? ⟨w.heap.size, 2, none⟩ = some (.int .i64 c) ∧ w'.cell? ⟨w.heap.size, 3, none⟩ = some (.slice (some ⟨bl, off, none⟩) L.length cap))) := Lib.hid (fun w' h => ⟨held_belowM h f0, held_belowM h f1, held_belowM h f2, held_belowM h f3⟩)
  go_region_held3 (fun w' => w'.cell? ⟨w.heap.size, 0, none⟩ = some (.int .i64 a) ∧ w'.cell? ⟨w.heap.size, 1, none⟩ = some (.int .i64 b) ∧ w'.cell? ⟨w.heap.size, 2, none⟩ = some (.int .i64 c) ∧ w'.cell? ⟨w.heap.size, 3, none⟩ = some (.slice (some ⟨bl, off, none⟩) L.length cap))
    (first
      | go_keep
      | (exact K5.out _ (Below.refl _ _))
      | (exact K5.out _ hw2)
      | (exact K5.out _ (belDM hw2))
      | (exact K5.out _ (hw2.trans (hw3.mono hw2.size)))
      | (exact K5.out _ ((belDM hw2).trans (hw3.mono hw2.size)))
      | (exact K5.out _ ((belDM hw2).trans ((belDM hw3).mono hw2.size))))
    (first
      | ((with_reducible refine (cS _).mono ?_); rintro e w2 ⟨g, rfl, hp, hw2⟩; have HP := Lib.hid hp; clear hp)
      | ((with_reducible refine (cM _ _ (H.out.later (b1.trans (hw2.mono hZ))) HP.out).mono ?_); rintro e w3 ⟨rfl, hw3⟩; obtain ⟨rc0, rc1, rf, rl⟩ := (R1.out.later hw2).later hw3)
      | ((with_reducible refine (cM _ _ (H.out.later (b1.trans ((belDM hw2).mono hZ))) HP.out).mono ?_); rintro e w3 ⟨rfl, hw3⟩; obtain ⟨rc0, rc1, rf, rl⟩ := (R1.out.later (belDM hw2)).later hw3))
  all_goals
    go_wp2
    refine bodyPost_ret (v := .tuple #[.agg #[.int .i64 (z).1, .int .i64 (z).2], .int .i64 0]) ?_ rfl ⟨rfl, ?_⟩
    · simp [results, Tryz.results23, go_sem, rc0, rc1, rl]
    · first
        | exact Below.setCell (Below.setCell (b1.trans (((belDM hw2).trans (hw3.mono hw2.size)).mono hZ)) (by simp) _) (by simp) _
        | exact Below.setCell (Below.setCell (b1.trans ((hw2.trans (hw3.mono hw2.size)).mono hZ)) (by simp) _) (by simp) _
set_option maxHeartbeats 3200000 in
theorem refPolyakov_ok1 (a b c : Int) (bl off cap N : Nat) (L : List Q) (w : World) (hl : Lies w bl off L) (hF : Fl a b c L) (hN : (N : Int) = a * b * c) : Calls Tryz.prog 24 #[.agg #[.int .i64 a, .int .i64 b, .int .i64 c, .slice (some ⟨bl, off, none⟩) L.length cap], .int .i64 1] w fun e w' => e = .returned (.tuple #[.agg #[.int .i64 ((meanR (tl a b c L (List.replicate b.toNat 2) N))).1, .int .i64 ((meanR (tl a b c L (List.replicate b.toNat 2) N))).2], .int .i64 0]) ∧ Below w.heap.size w w' := by
  have hz := hF.z
  have hs1 := hz.b1
  have hs4 := hz.b4
  have c1 := fun (W : World) (h : Lies W bl off L) => refValidateF_any a b c 0 (some ⟨bl, off, none⟩) cap L W (.inr ⟨bl, off, rfl, h⟩) (Fl_fldR hF) (by have := fld_len (Fl_fldR hF); omega)
  have c2 := fun W => within3_any 1 0 2 W true (.inl ⟨by omega, by omega, rfl⟩)
  have cM := fun (ao : Option Addr) (pc : Nat) (W : World) (h : Lies W bl off L) (hp : LiesOI W ao (List.replicate b.toNat 2)) => over_ok a b c bl off cap pc N ao L (List.replicate b.toNat 2) W h hp hF hN (rep_steps _ ⟨by omega, by omega, by omega⟩) (by rw [List.length_replicate]; omega)
  have H := Lib.hid hl
  obtain ⟨i0, hi, hz0, hz1, hz2⟩ := info_parts infoI
  clear hl hF hN hz
  generalize meanR (tl a b c L (List.replicate b.toNat 2) N) = z at *
  obtain ⟨n, hn⟩ : ∃ n : Nat, b = n := ⟨b.toNat, by omega⟩
  rw [show b.toNat = n by omega] at cM
  have HN := Lib.hid hn
  clear hn
  have CM := Lib.hid cM
  clear cM
  go_enter Tryz.func24, Tryz.ntmps24
  have f0 : FW ((w.alloc (.cells #[.int .i64 a, .int .i64 b, .int .i64 c, .slice (some ⟨bl, off, none⟩) L.length cap] 25)).alloc (.cells #[.int .i64 0, .int .i64 0] 32)) w.heap.size a b c (.slice (some ⟨bl, off, none⟩) L.length cap) := FW.n2a
  have r0 : RB ((w.alloc (.cells #[.int .i64 a, .int .i64 b, .int .i64 c, .slice (some ⟨bl, off, none⟩) L.length cap] 25)).alloc (.cells #[.int .i64 0, .int .i64 0] 32)) (w.heap.size + 1) (0, 0) := ⟨by simp [go_sem], by simp [go_sem], fun j => by simp [go_sem], by simp <;> omega⟩
  have F0 := Lib.hid f0
  have R0 := Lib.hid r0
  clear f0 r0
  go_wp2_with (fail)
  refine (c1 _ (H.out.later (by repeat (first | (with_reducible exact Below.refl _ _) | (with_reducible refine Below.setCell ?_ ?_ _) | (with_reducible refine Below.drew ?_) | (with_reducible refine Below.alloc ?_ ?_ _) | omega | (simp <;> omega))))).mono ?_
  rintro e w1 ⟨rfl, hw1⟩
  have F1 := Lib.hid (F0.out.later hw1)
  have R1 := Lib.hid (R0.out.later hw1)
  have b1 : Below w.heap.size w w1 := by repeat (first | (with_reducible exact Below.refl _ _) | (with_reducible refine Below.setCell ?_ ?_ _) | (with_reducible refine Below.drew ?_) | (with_reducible refine Below.alloc ?_ ?_ _) | (with_reducible refine Below.trans ?_ (Below.mono hw1 ?_)) | (with_reducible exact hw1.size) | omega | (simp <;> omega) | (simp <;> (have s := hw1.size; omega)) | (have s0 := hw1.size; (try simp at s0); (try simp); omega))
  clear hw1 F0 R0 c1
  go_wp2_with (fail)
  refine (c2 _).mono ?_
  rintro e wx ⟨rfl, rfl⟩
  go_wp2
  have hs1' := b1.size
  have sz := (F1.out).lt
  have sr := (R1.out).lt
  go_loopw [7, 8] (fun f q wr => ∃ (k : Nat) (v : Value), k ≤ n ∧ q = .int .i64 k ∧ v = f ∧ Hid (wr.ownsRow w1.heap.size 3 1 v k ((List.replicate k (2 : Int)).map vi)) ∧ Hid (FW wr w.heap.size a b c (.slice (some ⟨bl, off, none⟩) L.length cap)) ∧ Hid (RB wr (w.heap.size + 1) (0, 0)) ∧ Below w1.heap.size w1 wr) (fun _ q _ => n - (intOf q).toNat)
  case atStart => exact ⟨0, _, by omega, rfl, rfl, Lib.hid (World.ownsRow_nil _ _ _ _), F1, R1, Below.refl _ _⟩
  case round =>
    obtain ⟨k, v, hk, rfl, rfl, hown, hf, hr, hb⟩ := hrel
    clear F1 R1
    have hbs := hb.size
    obtain ⟨f0, f1, f2, f3, ff, fl⟩ := hf.out
    by_cases hlt : k < n
    · have i1 : (k : Int) < b := by have := HN.out; omega
      have k5 : k ≤ 1000 := by have := HN.out; omega
      go_wp2_with (at_builtin; refine wpList_append_own _ rfl (.tmp 27) (.tmp 30) 26 rfl w1.heap.size 3 i0 _ 1 8 Tryz.underlying26 hi hz0 hz1 hz2 rfl (by decide) v k ((List.replicate k (2 : Int)).map vi) rfl (hown.out.alloc _) ⟨wr.heap.size, 0, none⟩ 1 1 [vi (2)] rfl rfl (one_cell (by simp [go_sem, vi])) (one_one _) (by unfold maxLen; omega) (by omega) (by simp <;> omega) ?_; intro v' w4 hown4 hgrow4 _)
      have hfr := owned_from hown.out
      have hb4 := (hb.alloc hbs _).grown hgrow4 (by simp <;> omega) (fun j hj => by have := hfr j hj; omega)
      have hf4 := Lib.hid ((hf.out.later ba1).grown hgrow4 (by have := hfr w.heap.size; intro h; have := this h.symm; omega))
      have hr4 := Lib.hid ((hr.out.later ba1).farZ hgrow4 (by have := hfr (w.heap.size + 1); intro h; have := this h.symm; omega))
      have ho : w4.ownsRow w1.heap.size 3 1 v' (k + 1) ((List.replicate (k + 1) (2 : Int)).map vi) := by rw [List.replicate_succ', List.map_append]; exact hown4
      clear hown4 hgrow4 hown hf hr f0 f1 f2 f3 ff fl
      go_wp2
      exact ⟨⟨k + 1, _, by omega, by go_num, rfl, Lib.hid ho, hf4, hr4, hb4⟩, by simp [intOf]; omega⟩
    · have i1 : ¬ (k : Int) < b := by have := HN.out; omega
      obtain rfl : n = k := by omega
      have ho : wr.ownsRow w1.heap.size 3 1 v (List.replicate n (2 : Int)).length ((List.replicate n (2 : Int)).map vi) := by rw [List.length_replicate]; exact hown.out
      obtain ⟨ao, cv, rfl, hp⟩ := owned_liesOI ho
      have HP := Lib.hid hp
      have cM := fun W h hp => CM.out ao cv W h hp
      have b2 : Below w.heap.size w wr := b1.trans (hb.mono hs1')
      clear hown ho hp
      simp only [List.length_replicate] at cM ⊢
      go_wp2_with (fail)
      refine (cM _ (H.out.later b2) HP.out).mono ?_
      rintro e w6 ⟨rfl, hw6⟩
      obtain ⟨g0, g1, gf, gl⟩ := hr.out.later hw6
      go_wp2
      refine bodyPost_ret (v := .tuple #[.agg #[.int .i64 (z).1, .int .i64 (z).2], .int .i64 0]) ?_ rfl ⟨rfl, ?_⟩
      · simp [results, Tryz.results24, go_sem, g0, g1, gl]
      · repeat (first | (with_reducible exact Below.refl _ _) | (with_reducible refine Below.setCell ?_ ?_ _) | (with_reducible refine Below.drew ?_) | (with_reducible refine Below.alloc ?_ ?_ _) | (with_reducible refine Below.trans ?_ (Below.mono hw6 ?_)) | (with_reducible refine Below.trans ?_ (Below.mono b2 ?_)) | (with_reducible exact hw6.size) | (with_reducible exact b2.size) | omega | (simp <;> omega) | (simp <;> (have s := hw6.size; omega)) | (simp <;> (have s := b2.size; omega)) | (have s0 := hw6.size; (try simp at s0); have s1 := b2.size; (try simp at s1); (try simp); omega))

theorem wind_clo2 (a b c : Int) (h : Sz a b c) : Clo a b c (List.replicate c.toNat (3 : Int)) := by
  have e1 := sm_rep 1 3 c.toNat
  have e2 := sm_rep 2 3 c.toNat
  have e3 := sm_rep 3 3 c.toNat
  have hn : ((c.toNat : Nat) : Int) = c := Int.toNat_of_nonneg (by have := h.c1; omega)
  rw [hn] at e1 e2 e3
  refine ⟨?_, ?_, ?_⟩
  · rw [e1]; simp [dlt]
  · rw [e2]; simp [dlt]
  · rw [e3]; simp [dlt]
set_option maxHeartbeats 3200000 in
theorem polyakov_ok2 (a b c : Int) (bl off cap N : Nat) (L : List Q) (w : World) (hl : Lies w bl off L) (hF : Fl a b c L) (hN : (N : Int) = a * b * c) : Calls Tryz.prog 23 #[.agg #[.int .i64 a, .int .i64 b, .int .i64 c, .slice (some ⟨bl, off, none⟩) L.length cap], .int .i64 2] w fun e w' => e = .returned (.tuple #[.agg #[.int .i64 ((meanR (tl a b c L (List.replicate c.toNat 3) N))).1, .int .i64 ((meanR (tl a b c L (List.replicate c.toNat 3) N))).2], .int .i64 0]) ∧ Below w.heap.size w w' := by
  have hz := hF.z
  have hp1 : 0 < a * b * c := by obtain ⟨-, -, p3, -⟩ := mul_rng hz.a1 hz.a4 hz.b1 hz.b4 hz.c1 hz.c4; omega
  have c1 := fun (W : World) (h : Lies W bl off L) => get_ok a b c 0 2 bl off cap L W h (.inr (.inr (.inr ⟨Fl_fldR hF, by omega, hp1, by omega, by omega, rfl⟩))) hF (by omega) hp1 (by omega) (by omega)
  have cS : ∀ W : World, Calls Tryz.prog 45 #[.int .i64 3, .int .i64 c] W fun e w' => ∃ g, e = .returned (.slice (some ⟨g, 0, none⟩) (List.replicate c.toNat (3 : Int)).length c.toNat) ∧ LiesOI w' (some ⟨g, 0, none⟩) (List.replicate c.toNat 3) ∧ Below W.heap.size W w' := fun W => (straight_any 3 c W hz.c1 hz.c4).mono fun e w' ⟨g, he, hl, hb⟩ => ⟨g, by rw [List.length_replicate]; exact he, hl.o, hb⟩
  have cM := fun (g : Nat) (W : World) (h : Lies W bl off L) (hp : LiesOI W (some ⟨g, 0, none⟩) (List.replicate c.toNat 3)) => meanAlong_ok a b c bl off cap c.toNat N (some ⟨g, 0, none⟩) L (List.replicate c.toNat 3) W h hp hF hN (rep_steps _ ⟨by omega, by omega, by omega⟩) (by rw [List.length_replicate]; have := hz.c4; omega) (wind_clo2 a b c hz)
  have H := Lib.hid hl
  generalize c.toNat = nS at *
  clear hl hF hN hz hp1
  generalize List.replicate nS (3 : Int) = p at *
  generalize meanR (tl a b c L p N) = z at *
  generalize lk L (3 * 0 + 2) = x at *
  go_enter Tryz.func23, Tryz.ntmps23
  have f0 : FW ((w.alloc (.cells #[.int .i64 a, .int .i64 b, .int .i64 c, .slice (some ⟨bl, off, none⟩) L.length cap] 25)).alloc (.cells #[.int .i64 0, .int .i64 0] 32)) w.heap.size a b c (.slice (some ⟨bl, off, none⟩) L.length cap) := FW.n2a
  have r0 : RB ((w.alloc (.cells #[.int .i64 a, .int .i64 b, .int .i64 c, .slice (some ⟨bl, off, none⟩) L.length cap] 25)).alloc (.cells #[.int .i64 0, .int .i64 0] 32)) (w.heap.size + 1) (0, 0) := ⟨by simp [go_sem], by simp [go_sem], fun j => by simp [go_sem], by simp <;> omega⟩
  have F0 := Lib.hid f0
  have R0 := Lib.hid r0
  clear f0 r0
  go_wp2_with (fail)
  refine (c1 _ (H.out.later (by repeat (first | (with_reducible exact Below.refl _ _) | (with_reducible refine Below.setCell ?_ ?_ _) | (with_reducible refine Below.drew ?_) | (with_reducible refine Below.alloc ?_ ?_ _) | omega | (simp <;> omega))))).mono ?_
  rintro e w1 ⟨rfl, hw1⟩
  have F1 := Lib.hid ((F0.out.later hw1).later (ba1 (o := .cells #[.int .i64 x.a, .int .i64 x.b, .int .i64 x.c, .int .i64 x.d, .int .i64 x.n] 62)))
  have R1 := Lib.hid ((R0.out.later hw1).later (ba1 (o := .cells #[.int .i64 x.a, .int .i64 x.b, .int .i64 x.c, .int .i64 x.d, .int .i64 x.n] 62)))
  have b1 : Below w.heap.size w (w1.alloc (.cells #[.int .i64 x.a, .int .i64 x.b, .int .i64 x.c, .int .i64 x.d, .int .i64 x.n] 62)) := by repeat (first | (with_reducible exact Below.refl _ _) | (with_reducible refine Below.setCell ?_ ?_ _) | (with_reducible refine Below.drew ?_) | (with_reducible refine Below.alloc ?_ ?_ _) | (with_reducible refine Below.trans ?_ (Below.mono hw1 ?_)) | (with_reducible exact hw1.size) | omega | (simp <;> omega) | (simp <;> (have s := hw1.size; omega)) | (have s0 := hw1.size; (try simp at s0); (try simp); omega))
  clear hw1 F0 R0 c1
  obtain ⟨f0, f1, f2, f3, ff, fl⟩ := F1.out
  go_wp2
  clear F1
  generalize w1.alloc (.cells #[.int .i64 x.a, .int .i64 x.b, .int .i64 x.c, .int .i64 x.d, .int .i64 x.n] 62) = Z at *
  generalize w1.heap.size = gz at *
  have hZ := b1.size
  have qw : IntKind.i64.wrap 3 = 3 := by decide
  have K5 : Hid (∀ w' : World, Below Z.heap.size Z w' → (w'.cell? ⟨w.heap.size, 0, none⟩ = some (.int .i64 a) ∧ w'.cell? ⟨w.heap.size, 1, none⟩ = some (.int .i64 b) ∧ w'.cell? ⟨w.heap.size, 2, none⟩ = some (.int .i64 c) ∧ w'.cell? ⟨w.heap.size, 3, none⟩ = some (.slice (some ⟨bl, off, none⟩) L.length cap))) := Lib.hid (fun w' h => ⟨held_belowM h f0, held_belowM h f1, held_belowM h f2, held_belowM h f3⟩)
  go_region_held3 (fun w' => w'.cell? ⟨w.heap.size, 0, none⟩ = some (.int .i64 a) ∧ w'.cell? ⟨w.heap.size, 1, none⟩ = some (.int .i64 b) ∧ w'.cell? ⟨w.heap.size, 2, none⟩ = some (.int .i64 c) ∧ w'.cell? ⟨w.heap.size, 3, none⟩ = some (.slice (some ⟨bl, off, none⟩) L.length cap))
    (first
      | go_keep
      | (exact K5.out _ (Below.refl _ _))
      | (exact K5.out _ hw2)
      | (exact K5.out _ (belDM hw2))
      | (exact K5.out _ (hw2.trans (hw3.mono hw2.size)))
      | (exact K5.out _ ((belDM hw2).trans (hw3.mono hw2.size)))
      | (exact K5.out _ ((belDM hw2).trans ((belDM hw3).mono hw2.size))))
    (first
      | ((with_reducible refine (cS _).mono ?_); rintro e w2 ⟨g, rfl, hp, hw2⟩; have HP := Lib.hid hp; clear hp)
      | ((with_reducible refine (cM _ _ (H.out.later (b1.trans (hw2.mono hZ))) HP.out).mono ?_); rintro e w3 ⟨rfl, hw3⟩; obtain ⟨rc0, rc1, rf, rl⟩ := (R1.out.later hw2).later hw3)
      | ((with_reducible refine (cM _ _ (H.out.later (b1.trans ((belDM hw2).mono hZ))) HP.out).mono ?_); rintro e w3 ⟨rfl, hw3⟩; obtain ⟨rc0, rc1, rf, rl⟩ := (R1.out.later (belDM hw2)).later hw3))
  all_goals
    go_wp2
    refine bodyPost_ret (v := .tuple #[.agg #[.int .i64 (z).1, .int .i64 (z).2], .int .i64 0]) ?_ rfl ⟨rfl, ?_⟩
    · simp [results, Tryz.results23, go_sem, rc0, rc1, rl]
    · first
        | exact Below.setCell (Below.setCell (b1.trans (((belDM hw2).trans (hw3.mono hw2.size)).mono hZ)) (by simp) _) (by simp) _
        | exact Below.setCell (Below.setCell (b1.trans ((hw2.trans (hw3.mono hw2.size)).mono hZ)) (by simp) _) (by simp) _
set_option maxHeartbeats 3200000 in
theorem refPolyakov_ok2 (a b c : Int) (bl off cap N : Nat) (L : List Q) (w : World) (hl : Lies w bl off L) (hF : Fl a b c L) (hN : (N : Int) = a * b * c) : Calls Tryz.prog 24 #[.agg #[.int .i64 a, .int .i64 b, .int .i64 c, .slice (some ⟨bl, off, none⟩) L.length cap], .int .i64 2] w fun e w' => e = .returned (.tuple #[.agg #[.int .i64 ((meanR (tl a b c L (List.replicate c.toNat 3) N))).1, .int .i64 ((meanR (tl a b c L (List.replicate c.toNat 3) N))).2], .int .i64 0]) ∧ Below w.heap.size w w' := by
  have hz := hF.z
  have hs1 := hz.c1
  have hs4 := hz.c4
  have c1 := fun (W : World) (h : Lies W bl off L) => refValidateF_any a b c 0 (some ⟨bl, off, none⟩) cap L W (.inr ⟨bl, off, rfl, h⟩) (Fl_fldR hF) (by have := fld_len (Fl_fldR hF); omega)
  have c2 := fun W => within3_any 2 0 2 W true (.inl ⟨by omega, by omega, rfl⟩)
  have cM := fun (ao : Option Addr) (pc : Nat) (W : World) (h : Lies W bl off L) (hp : LiesOI W ao (List.replicate c.toNat 3)) => over_ok a b c bl off cap pc N ao L (List.replicate c.toNat 3) W h hp hF hN (rep_steps _ ⟨by omega, by omega, by omega⟩) (by rw [List.length_replicate]; omega)
  have H := Lib.hid hl
  obtain ⟨i0, hi, hz0, hz1, hz2⟩ := info_parts infoI
  clear hl hF hN hz
  generalize meanR (tl a b c L (List.replicate c.toNat 3) N) = z at *
  obtain ⟨n, hn⟩ : ∃ n : Nat, c = n := ⟨c.toNat, by omega⟩
  rw [show c.toNat = n by omega] at cM
  have HN := Lib.hid hn
  clear hn
  have CM := Lib.hid cM
  clear cM
  go_enter Tryz.func24, Tryz.ntmps24
  have f0 : FW ((w.alloc (.cells #[.int .i64 a, .int .i64 b, .int .i64 c, .slice (some ⟨bl, off, none⟩) L.length cap] 25)).alloc (.cells #[.int .i64 0, .int .i64 0] 32)) w.heap.size a b c (.slice (some ⟨bl, off, none⟩) L.length cap) := FW.n2a
  have r0 : RB ((w.alloc (.cells #[.int .i64 a, .int .i64 b, .int .i64 c, .slice (some ⟨bl, off, none⟩) L.length cap] 25)).alloc (.cells #[.int .i64 0, .int .i64 0] 32)) (w.heap.size + 1) (0, 0) := ⟨by simp [go_sem], by simp [go_sem], fun j => by simp [go_sem], by simp <;> omega⟩
  have F0 := Lib.hid f0
  have R0 := Lib.hid r0
  clear f0 r0
  go_wp2_with (fail)
  refine (c1 _ (H.out.later (by repeat (first | (with_reducible exact Below.refl _ _) | (with_reducible refine Below.setCell ?_ ?_ _) | (with_reducible refine Below.drew ?_) | (with_reducible refine Below.alloc ?_ ?_ _) | omega | (simp <;> omega))))).mono ?_
  rintro e w1 ⟨rfl, hw1⟩
  have F1 := Lib.hid (F0.out.later hw1)
  have R1 := Lib.hid (R0.out.later hw1)
  have b1 : Below w.heap.size w w1 := by repeat (first | (with_reducible exact Below.refl _ _) | (with_reducible refine Below.setCell ?_ ?_ _) | (with_reducible refine Below.drew ?_) | (with_reducible refine Below.alloc ?_ ?_ _) | (with_reducible refine Below.trans ?_ (Below.mono hw1 ?_)) | (with_reducible exact hw1.size) | omega | (simp <;> omega) | (simp <;> (have s := hw1.size; omega)) | (have s0 := hw1.size; (try simp at s0); (try simp); omega))
  clear hw1 F0 R0 c1
  go_wp2_with (fail)
  refine (c2 _).mono ?_
  rintro e wx ⟨rfl, rfl⟩
  go_wp2
  have hs1' := b1.size
  have sz := (F1.out).lt
  have sr := (R1.out).lt
  go_loopw [7, 8] (fun f q wr => ∃ (k : Nat) (v : Value), k ≤ n ∧ q = .int .i64 k ∧ v = f ∧ Hid (wr.ownsRow w1.heap.size 3 1 v k ((List.replicate k (3 : Int)).map vi)) ∧ Hid (FW wr w.heap.size a b c (.slice (some ⟨bl, off, none⟩) L.length cap)) ∧ Hid (RB wr (w.heap.size + 1) (0, 0)) ∧ Below w1.heap.size w1 wr) (fun _ q _ => n - (intOf q).toNat)
  case atStart => exact ⟨0, _, by omega, rfl, rfl, Lib.hid (World.ownsRow_nil _ _ _ _), F1, R1, Below.refl _ _⟩
  case round =>
    obtain ⟨k, v, hk, rfl, rfl, hown, hf, hr, hb⟩ := hrel
    clear F1 R1
    have hbs := hb.size
    obtain ⟨f0, f1, f2, f3, ff, fl⟩ := hf.out
    by_cases hlt : k < n
    · have i1 : (k : Int) < c := by have := HN.out; omega
      have k5 : k ≤ 1000 := by have := HN.out; omega
      go_wp2_with (at_builtin; refine wpList_append_own _ rfl (.tmp 27) (.tmp 30) 26 rfl w1.heap.size 3 i0 _ 1 8 Tryz.underlying26 hi hz0 hz1 hz2 rfl (by decide) v k ((List.replicate k (3 : Int)).map vi) rfl (hown.out.alloc _) ⟨wr.heap.size, 0, none⟩ 1 1 [vi (3)] rfl rfl (one_cell (by simp [go_sem, vi])) (one_one _) (by unfold maxLen; omega) (by omega) (by simp <;> omega) ?_; intro v' w4 hown4 hgrow4 _)
      have hfr := owned_from hown.out
      have hb4 := (hb.alloc hbs _).grown hgrow4 (by simp <;> omega) (fun j hj => by have := hfr j hj; omega)
      have hf4 := Lib.hid ((hf.out.later ba1).grown hgrow4 (by have := hfr w.heap.size; intro h; have := this h.symm; omega))
      have hr4 := Lib.hid ((hr.out.later ba1).farZ hgrow4 (by have := hfr (w.heap.size + 1); intro h; have := this h.symm; omega))
      have ho : w4.ownsRow w1.heap.size 3 1 v' (k + 1) ((List.replicate (k + 1) (3 : Int)).map vi) := by rw [List.replicate_succ', List.map_append]; exact hown4
      clear hown4 hgrow4 hown hf hr f0 f1 f2 f3 ff fl
      go_wp2
      exact ⟨⟨k + 1, _, by omega, by go_num, rfl, Lib.hid ho, hf4, hr4, hb4⟩, by simp [intOf]; omega⟩
    · have i1 : ¬ (k : Int) < c := by have := HN.out; omega
      obtain rfl : n = k := by omega
      have ho : wr.ownsRow w1.heap.size 3 1 v (List.replicate n (3 : Int)).length ((List.replicate n (3 : Int)).map vi) := by rw [List.length_replicate]; exact hown.out
      obtain ⟨ao, cv, rfl, hp⟩ := owned_liesOI ho
      have HP := Lib.hid hp
      have cM := fun W h hp => CM.out ao cv W h hp
      have b2 : Below w.heap.size w wr := b1.trans (hb.mono hs1')
      clear hown ho hp
      simp only [List.length_replicate] at cM ⊢
      go_wp2_with (fail)
      refine (cM _ (H.out.later b2) HP.out).mono ?_
      rintro e w6 ⟨rfl, hw6⟩
      obtain ⟨g0, g1, gf, gl⟩ := hr.out.later hw6
      go_wp2
      refine bodyPost_ret (v := .tuple #[.agg #[.int .i64 (z).1, .int .i64 (z).2], .int .i64 0]) ?_ rfl ⟨rfl, ?_⟩
      · simp [results, Tryz.results24, go_sem, g0, g1, gl]
      · repeat (first | (with_reducible exact Below.refl _ _) | (with_reducible refine Below.setCell ?_ ?_ _) | (with_reducible refine Below.drew ?_) | (with_reducible refine Below.alloc ?_ ?_ _) | (with_reducible refine Below.trans ?_ (Below.mono hw6 ?_)) | (with_reducible refine Below.trans ?_ (Below.mono b2 ?_)) | (with_reducible exact hw6.size) | (with_reducible exact b2.size) | omega | (simp <;> omega) | (simp <;> (have s := hw6.size; omega)) | (simp <;> (have s := b2.size; omega)) | (have s0 := hw6.size; (try simp at s0); have s1 := b2.size; (try simp at s1); (try simp); omega))

end Go.Proofs.YtjidbajcnomceaaGreat
