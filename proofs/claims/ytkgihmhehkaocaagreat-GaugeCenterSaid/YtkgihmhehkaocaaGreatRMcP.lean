/- Means around the torus in a direction, as the program makes them.
Conditions: the lists lie in memory as it is written at each theorem. -/
import Derived.Test.YtkgihmhehkaocaaGreatRLzC
import Derived.Test.YtkgihmhehkaocaaGreatRGetL
namespace Go.Proofs.YtkgihmhehkaocaaGreat
set_option linter.unusedVariables false
set_option linter.unusedSimpArgs false
set_option maxRecDepth 1000000
open Go.RowKit
open Um Tm Lm

theorem belDM {w w1 : World} (h : Below w.drew.heap.size w.drew w1) : Below w.heap.size w w1 := ⟨h.os, h.tape, h.output, h.size, h.block⟩
theorem held_belowM {W W1 : World} {b i : Nat} {v : Value} (h : Below W.heap.size W W1) (hc : W.cell? ⟨b, i, none⟩ = some v) : W1.cell? ⟨b, i, none⟩ = some v := (h.cell (World.block_lt_of_cell? W _ hc)).trans hc
theorem rep_steps {t : Int} (n : Nat) (ht : IsStep t) : ∀ s ∈ List.replicate n t, IsStep s := fun s hs => by rw [(List.mem_replicate.1 hs).2]; exact ht
set_option maxHeartbeats 1600000 in
set_option maxHeartbeats 1600000 in
theorem wind_clo0 (a b c : Int) (h : Sz a b c) : Clo a b c (List.replicate a.toNat (1 : Int)) := by
  have e1 := sm_rep 1 1 a.toNat
  have e2 := sm_rep 2 1 a.toNat
  have e3 := sm_rep 3 1 a.toNat
  have hn : ((a.toNat : Nat) : Int) = a := Int.toNat_of_nonneg (by have := h.a1; omega)
  rw [hn] at e1 e2 e3
  refine ⟨?_, ?_, ?_⟩
  · rw [e1]; simp [dlt]
  · rw [e2]; simp [dlt]
  · rw [e3]; simp [dlt]
set_option maxHeartbeats 3200000 in
theorem polyakov_ok0 (a b c : Int) (bl off cap N : Nat) (L : List Q) (w : World) (hl : Lies w bl off L) (hF : Fl a b c L) (hN : (N : Int) = a * b * c) : Calls Tryz.prog 20 #[.agg #[.int .i64 a, .int .i64 b, .int .i64 c, .slice (some ⟨bl, off, none⟩) L.length cap], .int .i64 0] w fun e w' => e = .returned (.tuple #[.agg #[.int .i64 ((meanR (tl a b c L (List.replicate a.toNat 1) N))).1, .int .i64 ((meanR (tl a b c L (List.replicate a.toNat 1) N))).2], .int .i64 0]) ∧ Below w.heap.size w w' := by
  have hz := hF.z
  have hp1 : 0 < a * b * c := by obtain ⟨-, -, p3, -⟩ := mul_rng hz.a1 hz.a4 hz.b1 hz.b4 hz.c1 hz.c4; omega
  have c1 := fun (W : World) (h : Lies W bl off L) => get_ok a b c 0 0 bl off cap L W h (.inr (.inr (.inr ⟨Fl_fldR hF, by omega, hp1, by omega, by omega, rfl⟩))) hF (by omega) hp1 (by omega) (by omega)
  have cS : ∀ W : World, Calls Tryz.prog 44 #[.int .i64 1, .int .i64 a] W fun e w' => ∃ g, e = .returned (.slice (some ⟨g, 0, none⟩) (List.replicate a.toNat (1 : Int)).length a.toNat) ∧ LiesOI w' (some ⟨g, 0, none⟩) (List.replicate a.toNat 1) ∧ Below W.heap.size W w' := fun W => (straight_any 1 a W hz.a1 hz.a4).mono fun e w' ⟨g, he, hl, hb⟩ => ⟨g, by rw [List.length_replicate]; exact he, hl.o, hb⟩
  have cM := fun (g : Nat) (W : World) (h : Lies W bl off L) (hp : LiesOI W (some ⟨g, 0, none⟩) (List.replicate a.toNat 1)) => meanAlong_ok a b c bl off cap a.toNat N (some ⟨g, 0, none⟩) L (List.replicate a.toNat 1) W h hp hF hN (rep_steps _ ⟨by omega, by omega, by omega⟩) (by rw [List.length_replicate]; have := hz.a4; omega) (wind_clo0 a b c hz)
  have H := Lib.hid hl
  generalize a.toNat = nS at *
  clear hl hF hN hz hp1
  generalize List.replicate nS (1 : Int) = p at *
  generalize meanR (tl a b c L p N) = z at *
  generalize lk L (3 * 0 + 0) = x at *
  go_enter Tryz.func20, Tryz.ntmps20
  have f0 : FW ((w.alloc (.cells #[.int .i64 a, .int .i64 b, .int .i64 c, .slice (some ⟨bl, off, none⟩) L.length cap] 25)).alloc (.cells #[.int .i64 0, .int .i64 0] 46)) w.heap.size a b c (.slice (some ⟨bl, off, none⟩) L.length cap) := FW.n2a
  have r0 : RB ((w.alloc (.cells #[.int .i64 a, .int .i64 b, .int .i64 c, .slice (some ⟨bl, off, none⟩) L.length cap] 25)).alloc (.cells #[.int .i64 0, .int .i64 0] 46)) (w.heap.size + 1) (0, 0) := ⟨by simp [go_sem], by simp [go_sem], fun j => by simp [go_sem], by simp <;> omega⟩
  have F0 := Lib.hid f0
  have R0 := Lib.hid r0
  clear f0 r0
  go_wp2_with (fail)
  refine (c1 _ (H.out.later (by repeat (first | (with_reducible exact Below.refl _ _) | (with_reducible refine Below.setCell ?_ ?_ _) | (with_reducible refine Below.drew ?_) | (with_reducible refine Below.alloc ?_ ?_ _) | omega | (simp <;> omega))))).mono ?_
  rintro e w1 ⟨rfl, hw1⟩
  have F1 := Lib.hid ((F0.out.later hw1).later (ba1 (o := .cells #[.int .i64 x.a, .int .i64 x.b, .int .i64 x.c, .int .i64 x.d, .int .i64 x.n] 55)))
  have R1 := Lib.hid ((R0.out.later hw1).later (ba1 (o := .cells #[.int .i64 x.a, .int .i64 x.b, .int .i64 x.c, .int .i64 x.d, .int .i64 x.n] 55)))
  have b1 : Below w.heap.size w (w1.alloc (.cells #[.int .i64 x.a, .int .i64 x.b, .int .i64 x.c, .int .i64 x.d, .int .i64 x.n] 55)) := by repeat (first | (with_reducible exact Below.refl _ _) | (with_reducible refine Below.setCell ?_ ?_ _) | (with_reducible refine Below.drew ?_) | (with_reducible refine Below.alloc ?_ ?_ _) | (with_reducible refine Below.trans ?_ (Below.mono hw1 ?_)) | (with_reducible exact hw1.size) | omega | (simp <;> omega) | (simp <;> (have s := hw1.size; omega)) | (have s0 := hw1.size; (try simp at s0); (try simp); omega))
  clear hw1 F0 R0 c1
  obtain ⟨f0, f1, f2, f3, ff, fl⟩ := F1.out
  go_wp2
  clear F1
  generalize w1.alloc (.cells #[.int .i64 x.a, .int .i64 x.b, .int .i64 x.c, .int .i64 x.d, .int .i64 x.n] 55) = Z at *
  generalize w1.heap.size = gz at *
  have hZ := b1.size
  have qw : IntKind.i64.wrap 1 = 1 := by decide
  have K5 : Hid (∀ w' : World, Below Z.heap.size Z w' → (w'.cell? ⟨w.heap.size, 0, none⟩ = some (.int .i64 a) ∧ w'.cell? ⟨w.heap.size, 1, none⟩ = some (.int .i64 b) ∧ w'.cell? ⟨w.heap.size, 2, none⟩ = some (.int .i64 c) ∧ w'.cell? ⟨w.heap.size, 3, none⟩ = some (.slice (some ⟨bl, off, none⟩) L.length cap))) := Lib.hid (fun w' h => ⟨held_belowM h f0, held_belowM h f1, held_belowM h f2, held_belowM h f3⟩)
  go_region_held3 (fun w' => w'.cell? ⟨w.heap.size, 0, none⟩ = some (.int .i64 a) ∧ w'.cell? ⟨w.heap.size, 1, none⟩ = some (.int .i64 b) ∧ w'.cell? ⟨w.heap.size, 2, none⟩ = some (.int .i64 c) ∧ w'.cell? ⟨w.heap.size, 3, none⟩ = some (.slice (some ⟨bl, off, none⟩) L.length cap))
    (first
      | go_keep
      | (exact K5.out _ (Below.refl _ _))
      | (exact K5.out _ hw2)
      | (exact K5.out _ (belDM hw2))
      | (exact K5.out _ (hw2.trans (hw3.mono hw2.size)))
      | (exact K5.out _ ((belDM hw2).trans (hw3.mono hw2.size)))
      | (exact K5.out _ ((belDM hw2).trans ((belDM hw3).mono hw2.size))))
    (first
      | ((with_reducible refine (cS _).mono ?_); rintro e w2 ⟨g, rfl, hp, hw2⟩; have HP := Lib.hid hp; clear hp)
      | ((with_reducible refine (cM _ _ (H.out.later (b1.trans (hw2.mono hZ))) HP.out).mono ?_); rintro e w3 ⟨rfl, hw3⟩; obtain ⟨rc0, rc1, rf, rl⟩ := (R1.out.later hw2).later hw3)
      | ((with_reducible refine (cM _ _ (H.out.later (b1.trans ((belDM hw2).mono hZ))) HP.out).mono ?_); rintro e w3 ⟨rfl, hw3⟩; obtain ⟨rc0, rc1, rf, rl⟩ := (R1.out.later (belDM hw2)).later hw3))
  all_goals
    go_wp2
    refine bodyPost_ret (v := .tuple #[.agg #[.int .i64 (z).1, .int .i64 (z).2], .int .i64 0]) ?_ rfl ⟨rfl, ?_⟩
    · simp [results, Tryz.results20, go_sem, rc0, rc1, rl]
    · first
        | exact Below.setCell (Below.setCell (b1.trans (((belDM hw2).trans (hw3.mono hw2.size)).mono hZ)) (by simp) _) (by simp) _
        | exact Below.setCell (Below.setCell (b1.trans ((hw2.trans (hw3.mono hw2.size)).mono hZ)) (by simp) _) (by simp) _
set_option maxHeartbeats 3200000 in
theorem wind_clo1 (a b c : Int) (h : Sz a b c) : Clo a b c (List.replicate b.toNat (2 : Int)) := by
  have e1 := sm_rep 1 2 b.toNat
  have e2 := sm_rep 2 2 b.toNat
  have e3 := sm_rep 3 2 b.toNat
  have hn : ((b.toNat : Nat) : Int) = b := Int.toNat_of_nonneg (by have := h.b1; omega)
  rw [hn] at e1 e2 e3
  refine ⟨?_, ?_, ?_⟩
  · rw [e1]; simp [dlt]
  · rw [e2]; simp [dlt]
  · rw [e3]; simp [dlt]
set_option maxHeartbeats 3200000 in
theorem polyakov_ok1 (a b c : Int) (bl off cap N : Nat) (L : List Q) (w : World) (hl : Lies w bl off L) (hF : Fl a b c L) (hN : (N : Int) = a * b * c) : Calls Tryz.prog 20 #[.agg #[.int .i64 a, .int .i64 b, .int .i64 c, .slice (some ⟨bl, off, none⟩) L.length cap], .int .i64 1] w fun e w' => e = .returned (.tuple #[.agg #[.int .i64 ((meanR (tl a b c L (List.replicate b.toNat 2) N))).1, .int .i64 ((meanR (tl a b c L (List.replicate b.toNat 2) N))).2], .int .i64 0]) ∧ Below w.heap.size w w' := by
  have hz := hF.z
  have hp1 : 0 < a * b * c := by obtain ⟨-, -, p3, -⟩ := mul_rng hz.a1 hz.a4 hz.b1 hz.b4 hz.c1 hz.c4; omega
  have c1 := fun (W : World) (h : Lies W bl off L) => get_ok a b c 0 1 bl off cap L W h (.inr (.inr (.inr ⟨Fl_fldR hF, by omega, hp1, by omega, by omega, rfl⟩))) hF (by omega) hp1 (by omega) (by omega)
  have cS : ∀ W : World, Calls Tryz.prog 44 #[.int .i64 2, .int .i64 b] W fun e w' => ∃ g, e = .returned (.slice (some ⟨g, 0, none⟩) (List.replicate b.toNat (2 : Int)).length b.toNat) ∧ LiesOI w' (some ⟨g, 0, none⟩) (List.replicate b.toNat 2) ∧ Below W.heap.size W w' := fun W => (straight_any 2 b W hz.b1 hz.b4).mono fun e w' ⟨g, he, hl, hb⟩ => ⟨g, by rw [List.length_replicate]; exact he, hl.o, hb⟩
  have cM := fun (g : Nat) (W : World) (h : Lies W bl off L) (hp : LiesOI W (some ⟨g, 0, none⟩) (List.replicate b.toNat 2)) => meanAlong_ok a b c bl off cap b.toNat N (some ⟨g, 0, none⟩) L (List.replicate b.toNat 2) W h hp hF hN (rep_steps _ ⟨by omega, by omega, by omega⟩) (by rw [List.length_replicate]; have := hz.b4; omega) (wind_clo1 a b c hz)
  have H := Lib.hid hl
  generalize b.toNat = nS at *
  clear hl hF hN hz hp1
  generalize List.replicate nS (2 : Int) = p at *
  generalize meanR (tl a b c L p N) = z at *
  generalize lk L (3 * 0 + 1) = x at *
  go_enter Tryz.func20, Tryz.ntmps20
  have f0 : FW ((w.alloc (.cells #[.int .i64 a, .int .i64 b, .int .i64 c, .slice (some ⟨bl, off, none⟩) L.length cap] 25)).alloc (.cells #[.int .i64 0, .int .i64 0] 46)) w.heap.size a b c (.slice (some ⟨bl, off, none⟩) L.length cap) := FW.n2a
  have r0 : RB ((w.alloc (.cells #[.int .i64 a, .int .i64 b, .int .i64 c, .slice (some ⟨bl, off, none⟩) L.length cap] 25)).alloc (.cells #[.int .i64 0, .int .i64 0] 46)) (w.heap.size + 1) (0, 0) := ⟨by simp [go_sem], by simp [go_sem], fun j => by simp [go_sem], by simp <;> omega⟩
  have F0 := Lib.hid f0
  have R0 := Lib.hid r0
  clear f0 r0
  go_wp2_with (fail)
  refine (c1 _ (H.out.later (by repeat (first | (with_reducible exact Below.refl _ _) | (with_reducible refine Below.setCell ?_ ?_ _) | (with_reducible refine Below.drew ?_) | (with_reducible refine Below.alloc ?_ ?_ _) | omega | (simp <;> omega))))).mono ?_
  rintro e w1 ⟨rfl, hw1⟩
  have F1 := Lib.hid ((F0.out.later hw1).later (ba1 (o := .cells #[.int .i64 x.a, .int .i64 x.b, .int .i64 x.c, .int .i64 x.d, .int .i64 x.n] 55)))
  have R1 := Lib.hid ((R0.out.later hw1).later (ba1 (o := .cells #[.int .i64 x.a, .int .i64 x.b, .int .i64 x.c, .int .i64 x.d, .int .i64 x.n] 55)))
  have b1 : Below w.heap.size w (w1.alloc (.cells #[.int .i64 x.a, .int .i64 x.b, .int .i64 x.c, .int .i64 x.d, .int .i64 x.n] 55)) := by repeat (first | (with_reducible exact Below.refl _ _) | (with_reducible refine Below.setCell ?_ ?_ _) | (with_reducible refine Below.drew ?_) | (with_reducible refine Below.alloc ?_ ?_ _) | (with_reducible refine Below.trans ?_ (Below.mono hw1 ?_)) | (with_reducible exact hw1.size) | omega | (simp <;> omega) | (simp <;> (have s := hw1.size; omega)) | (have s0 := hw1.size; (try simp at s0); (try simp); omega))
  clear hw1 F0 R0 c1
  obtain ⟨f0, f1, f2, f3, ff, fl⟩ := F1.out
  go_wp2
  clear F1
  generalize w1.alloc (.cells #[.int .i64 x.a, .int .i64 x.b, .int .i64 x.c, .int .i64 x.d, .int .i64 x.n] 55) = Z at *
  generalize w1.heap.size = gz at *
  have hZ := b1.size
  have qw : IntKind.i64.wrap 2 = 2 := by decide
  have K5 : Hid (∀ w' : World, Below Z.heap.size Z w' → (w'.cell? ⟨w.heap.size, 0, none⟩ = some (.int .i64 a) ∧ w'.cell? ⟨w.heap.size, 1, none⟩ = some (.int .i64 b) ∧ w'.cell? ⟨w.heap.size, 2, none⟩ = some (.int .i64 c) ∧ w'.cell? ⟨w.heap.size, 3, none⟩ = some (.slice (some ⟨bl, off, none⟩) L.length cap))) := Lib.hid (fun w' h => ⟨held_belowM h f0, held_belowM h f1, held_belowM h f2, held_belowM h f3⟩)
  go_region_held3 (fun w' => w'.cell? ⟨w.heap.size, 0, none⟩ = some (.int .i64 a) ∧ w'.cell? ⟨w.heap.size, 1, none⟩ = some (.int .i64 b) ∧ w'.cell? ⟨w.heap.size, 2, none⟩ = some (.int .i64 c) ∧ w'.cell? ⟨w.heap.size, 3, none⟩ = some (.slice (some ⟨bl, off, none⟩) L.length cap))
    (first
      | go_keep
      | (exact K5.out _ (Below.refl _ _))
      | (exact K5.out _ hw2)
      | (exact K5.out _ (belDM hw2))
      | (exact K5.out _ (hw2.trans (hw3.mono hw2.size)))
      | (exact K5.out _ ((belDM hw2).trans (hw3.mono hw2.size)))
      | (exact K5.out _ ((belDM hw2).trans ((belDM hw3).mono hw2.size))))
    (first
      | ((with_reducible refine (cS _).mono ?_); rintro e w2 ⟨g, rfl, hp, hw2⟩; have HP := Lib.hid hp; clear hp)
      | ((with_reducible refine (cM _ _ (H.out.later (b1.trans (hw2.mono hZ))) HP.out).mono ?_); rintro e w3 ⟨rfl, hw3⟩; obtain ⟨rc0, rc1, rf, rl⟩ := (R1.out.later hw2).later hw3)
      | ((with_reducible refine (cM _ _ (H.out.later (b1.trans ((belDM hw2).mono hZ))) HP.out).mono ?_); rintro e w3 ⟨rfl, hw3⟩; obtain ⟨rc0, rc1, rf, rl⟩ := (R1.out.later (belDM hw2)).later hw3))
  all_goals
    go_wp2
    refine bodyPost_ret (v := .tuple #[.agg #[.int .i64 (z).1, .int .i64 (z).2], .int .i64 0]) ?_ rfl ⟨rfl, ?_⟩
    · simp [results, Tryz.results20, go_sem, rc0, rc1, rl]
    · first
        | exact Below.setCell (Below.setCell (b1.trans (((belDM hw2).trans (hw3.mono hw2.size)).mono hZ)) (by simp) _) (by simp) _
        | exact Below.setCell (Below.setCell (b1.trans ((hw2.trans (hw3.mono hw2.size)).mono hZ)) (by simp) _) (by simp) _
set_option maxHeartbeats 3200000 in
theorem wind_clo2 (a b c : Int) (h : Sz a b c) : Clo a b c (List.replicate c.toNat (3 : Int)) := by
  have e1 := sm_rep 1 3 c.toNat
  have e2 := sm_rep 2 3 c.toNat
  have e3 := sm_rep 3 3 c.toNat
  have hn : ((c.toNat : Nat) : Int) = c := Int.toNat_of_nonneg (by have := h.c1; omega)
  rw [hn] at e1 e2 e3
  refine ⟨?_, ?_, ?_⟩
  · rw [e1]; simp [dlt]
  · rw [e2]; simp [dlt]
  · rw [e3]; simp [dlt]
set_option maxHeartbeats 3200000 in
theorem polyakov_ok2 (a b c : Int) (bl off cap N : Nat) (L : List Q) (w : World) (hl : Lies w bl off L) (hF : Fl a b c L) (hN : (N : Int) = a * b * c) : Calls Tryz.prog 20 #[.agg #[.int .i64 a, .int .i64 b, .int .i64 c, .slice (some ⟨bl, off, none⟩) L.length cap], .int .i64 2] w fun e w' => e = .returned (.tuple #[.agg #[.int .i64 ((meanR (tl a b c L (List.replicate c.toNat 3) N))).1, .int .i64 ((meanR (tl a b c L (List.replicate c.toNat 3) N))).2], .int .i64 0]) ∧ Below w.heap.size w w' := by
  have hz := hF.z
  have hp1 : 0 < a * b * c := by obtain ⟨-, -, p3, -⟩ := mul_rng hz.a1 hz.a4 hz.b1 hz.b4 hz.c1 hz.c4; omega
  have c1 := fun (W : World) (h : Lies W bl off L) => get_ok a b c 0 2 bl off cap L W h (.inr (.inr (.inr ⟨Fl_fldR hF, by omega, hp1, by omega, by omega, rfl⟩))) hF (by omega) hp1 (by omega) (by omega)
  have cS : ∀ W : World, Calls Tryz.prog 44 #[.int .i64 3, .int .i64 c] W fun e w' => ∃ g, e = .returned (.slice (some ⟨g, 0, none⟩) (List.replicate c.toNat (3 : Int)).length c.toNat) ∧ LiesOI w' (some ⟨g, 0, none⟩) (List.replicate c.toNat 3) ∧ Below W.heap.size W w' := fun W => (straight_any 3 c W hz.c1 hz.c4).mono fun e w' ⟨g, he, hl, hb⟩ => ⟨g, by rw [List.length_replicate]; exact he, hl.o, hb⟩
  have cM := fun (g : Nat) (W : World) (h : Lies W bl off L) (hp : LiesOI W (some ⟨g, 0, none⟩) (List.replicate c.toNat 3)) => meanAlong_ok a b c bl off cap c.toNat N (some ⟨g, 0, none⟩) L (List.replicate c.toNat 3) W h hp hF hN (rep_steps _ ⟨by omega, by omega, by omega⟩) (by rw [List.length_replicate]; have := hz.c4; omega) (wind_clo2 a b c hz)
  have H := Lib.hid hl
  generalize c.toNat = nS at *
  clear hl hF hN hz hp1
  generalize List.replicate nS (3 : Int) = p at *
  generalize meanR (tl a b c L p N) = z at *
  generalize lk L (3 * 0 + 2) = x at *
  go_enter Tryz.func20, Tryz.ntmps20
  have f0 : FW ((w.alloc (.cells #[.int .i64 a, .int .i64 b, .int .i64 c, .slice (some ⟨bl, off, none⟩) L.length cap] 25)).alloc (.cells #[.int .i64 0, .int .i64 0] 46)) w.heap.size a b c (.slice (some ⟨bl, off, none⟩) L.length cap) := FW.n2a
  have r0 : RB ((w.alloc (.cells #[.int .i64 a, .int .i64 b, .int .i64 c, .slice (some ⟨bl, off, none⟩) L.length cap] 25)).alloc (.cells #[.int .i64 0, .int .i64 0] 46)) (w.heap.size + 1) (0, 0) := ⟨by simp [go_sem], by simp [go_sem], fun j => by simp [go_sem], by simp <;> omega⟩
  have F0 := Lib.hid f0
  have R0 := Lib.hid r0
  clear f0 r0
  go_wp2_with (fail)
  refine (c1 _ (H.out.later (by repeat (first | (with_reducible exact Below.refl _ _) | (with_reducible refine Below.setCell ?_ ?_ _) | (with_reducible refine Below.drew ?_) | (with_reducible refine Below.alloc ?_ ?_ _) | omega | (simp <;> omega))))).mono ?_
  rintro e w1 ⟨rfl, hw1⟩
  have F1 := Lib.hid ((F0.out.later hw1).later (ba1 (o := .cells #[.int .i64 x.a, .int .i64 x.b, .int .i64 x.c, .int .i64 x.d, .int .i64 x.n] 55)))
  have R1 := Lib.hid ((R0.out.later hw1).later (ba1 (o := .cells #[.int .i64 x.a, .int .i64 x.b, .int .i64 x.c, .int .i64 x.d, .int .i64 x.n] 55)))
  have b1 : Below w.heap.size w (w1.alloc (.cells #[.int .i64 x.a, .int .i64 x.b, .int .i64 x.c, .int .i64 x.d, .int .i64 x.n] 55)) := by repeat (first | (with_reducible exact Below.refl _ _) | (with_reducible refine Below.setCell ?_ ?_ _) | (with_reducible refine Below.drew ?_) | (with_reducible refine Below.alloc ?_ ?_ _) | (with_reducible refine Below.trans ?_ (Below.mono hw1 ?_)) | (with_reducible exact hw1.size) | omega | (simp <;> omega) | (simp <;> (have s := hw1.size; omega)) | (have s0 := hw1.size; (try simp at s0); (try simp); omega))
  clear hw1 F0 R0 c1
  obtain ⟨f0, f1, f2, f3, ff, fl⟩ := F1.out
  go_wp2
  clear F1
  generalize w1.alloc (.cells #[.int .i64 x.a, .int .i64 x.b, .int .i64 x.c, .int .i64 x.d, .int .i64 x.n] 55) = Z at *
  generalize w1.heap.size = gz at *
  have hZ := b1.size
  have qw : IntKind.i64.wrap 3 = 3 := by decide
  have K5 : Hid (∀ w' : World, Below Z.heap.size Z w' → (w'.cell? ⟨w.heap.size, 0, none⟩ = some (.int .i64 a) ∧ w'.cell? ⟨w.heap.size, 1, none⟩ = some (.int .i64 b) ∧ w'.cell? ⟨w.heap.size, 2, none⟩ = some (.int .i64 c) ∧ w'.cell? ⟨w.heap.size, 3, none⟩ = some (.slice (some ⟨bl, off, none⟩) L.length cap))) := Lib.hid (fun w' h => ⟨held_belowM h f0, held_belowM h f1, held_belowM h f2, held_belowM h f3⟩)
  go_region_held3 (fun w' => w'.cell? ⟨w.heap.size, 0, none⟩ = some (.int .i64 a) ∧ w'.cell? ⟨w.heap.size, 1, none⟩ = some (.int .i64 b) ∧ w'.cell? ⟨w.heap.size, 2, none⟩ = some (.int .i64 c) ∧ w'.cell? ⟨w.heap.size, 3, none⟩ = some (.slice (some ⟨bl, off, none⟩) L.length cap))
    (first
      | go_keep
      | (exact K5.out _ (Below.refl _ _))
      | (exact K5.out _ hw2)
      | (exact K5.out _ (belDM hw2))
      | (exact K5.out _ (hw2.trans (hw3.mono hw2.size)))
      | (exact K5.out _ ((belDM hw2).trans (hw3.mono hw2.size)))
      | (exact K5.out _ ((belDM hw2).trans ((belDM hw3).mono hw2.size))))
    (first
      | ((with_reducible refine (cS _).mono ?_); rintro e w2 ⟨g, rfl, hp, hw2⟩; have HP := Lib.hid hp; clear hp)
      | ((with_reducible refine (cM _ _ (H.out.later (b1.trans (hw2.mono hZ))) HP.out).mono ?_); rintro e w3 ⟨rfl, hw3⟩; obtain ⟨rc0, rc1, rf, rl⟩ := (R1.out.later hw2).later hw3)
      | ((with_reducible refine (cM _ _ (H.out.later (b1.trans ((belDM hw2).mono hZ))) HP.out).mono ?_); rintro e w3 ⟨rfl, hw3⟩; obtain ⟨rc0, rc1, rf, rl⟩ := (R1.out.later (belDM hw2)).later hw3))
  all_goals
    go_wp2
    refine bodyPost_ret (v := .tuple #[.agg #[.int .i64 (z).1, .int .i64 (z).2], .int .i64 0]) ?_ rfl ⟨rfl, ?_⟩
    · simp [results, Tryz.results20, go_sem, rc0, rc1, rl]
    · first
        | exact Below.setCell (Below.setCell (b1.trans (((belDM hw2).trans (hw3.mono hw2.size)).mono hZ)) (by simp) _) (by simp) _
        | exact Below.setCell (Below.setCell (b1.trans ((hw2.trans (hw3.mono hw2.size)).mono hZ)) (by simp) _) (by simp) _
end Go.Proofs.YtkgihmhehkaocaaGreat
