/- A field that is shifted, as the program makes it.
Conditions: those written at each theorem. -/
import Derived.Test.YtmmkhkkmgjighaaMovS
import Derived.Test.YtmmkhkkmgjighaaRegB
namespace Go.Proofs.Ytmmkhkkmgjighaa
set_option linter.unusedVariables false
set_option linter.unusedSimpArgs false
set_option maxRecDepth 1000000
open Go.RowKit Go.Shelf
open Um Tm
attribute [local go_sem] Oper.semAt_some

set_option maxHeartbeats 6400000 in
theorem shift_in (a b c u v t : Int) (bl off cap N : Nat) (L : List Q) (w : World) (hl : Lies w bl off L) (hF : Fl a b c L) (hN : (N : Int) = a * b * c) :
    CallsIn Fence.wide 100 Try.prog 19 #[.agg #[.int .i64 a, .int .i64 b, .int .i64 c, .slice (some ⟨bl, off, none⟩) L.length cap], .agg #[.int .i64 u, .int .i64 v, .int .i64 t]] w fun e w' => ∃ g k : Nat, e = .returned (.tuple #[.agg #[.int .i64 a, .int .i64 b, .int .i64 c, .slice (some ⟨g, 0, none⟩) L.length k], .int .i64 0]) ∧ Lies w' g 0 (shL a b c u v t L) ∧ Below w.heap.size w w' := by
  have hz := hF.z
  have hp16 := hz.p
  have hn := hF.n
  obtain ⟨-, -, p3, -⟩ := mul_rng hz.a1 hz.a4 hz.b1 hz.b4 hz.c1 hz.c4
  have cV := fun (W : World) (h : LiesO W (some ⟨bl, off, none⟩) L) => validateF_any a b c 0 (some ⟨bl, off, none⟩) cap L W h (Fl_fldR hF) (by omega)
  have cB := fun W : World => blank_any a b c L.length W hz hn
  have cP := fun W : World => places_any a b c W
  have hTL := shL_len a b c u v t L
  have HT := Lib.hid (shL_shd (x := u) (y := v) (z := t) hz hn)
  obtain ⟨T, hT⟩ : ∃ T, T = shL a b c u v t L := ⟨_, rfl⟩
  rw [← hT] at hTL HT ⊢
  have HTL := Lib.hid hTL
  clear hT hTL
  refine callsIn_of_wp_marks Try.func19 rfl trivial ?_ rfl
  simp only [Try.ntmps19, List.size_toArray, List.length_cons, List.length_nil, Nat.reduceAdd, Nat.reduceSub, Array.replicate_succ, Array.replicate_zero, List.push_toArray, List.append_toArray, List.nil_append, List.cons_append]
  gi_wp2_with (first
    | (refine ⟨trivial, ?_⟩; gi_at_call 53; refine (callsIn_wide.2 (cV _ (.inr ⟨bl, off, rfl, hl.later (by repeat (first | (with_reducible exact Below.refl _ _) | (with_reducible refine Below.setCell ?_ ?_ _) | (with_reducible refine Below.drew ?_) | (with_reducible refine Below.alloc ?_ ?_ _) | omega | (simp <;> omega)))⟩))).mono ?_; rintro e w1 ⟨rfl, hw1⟩; have hc1 := Tail.cells hw1; have s1 := hw1.size; simp at s1; have z10 : w.heap.size < w1.heap.size := (by omega))
    | (refine ⟨trivial, ?_⟩; gi_at_call 60; refine (callsIn_wide.2 (cB _)).mono ?_; rintro e w2 ⟨g, rfl, hL, hg, hw2⟩; have HL := Lib.hid hL; clear hL; have hc2 := Tail.cells hw2; have s2 := hw2.size; have z20 : w.heap.size < w2.heap.size := (by omega))
    | (refine ⟨trivial, ?_⟩; gi_at_call 54; refine (callsIn_wide.2 (cP _)).mono ?_; rintro e w3 ⟨rfl, ⟨q0, q1, q2⟩, hlt3, hw3, hbx⟩; have hc3 := Tail.cells hw3))
  have hB13 : Below w1.heap.size w1 w3 := by repeat (first | (with_reducible exact Below.refl _ _) | (with_reducible refine Below.setCell ?_ ?_ _) | (with_reducible refine Below.drew ?_) | (with_reducible refine Below.alloc ?_ ?_ _) | (with_reducible refine Below.trans ?_ (Below.mono hw3 ?_)) | (with_reducible refine Below.trans ?_ (Below.mono hw2 ?_)) | (with_reducible exact hw3.size) | (with_reducible exact hw2.size) | omega | (simp <;> omega) | (simp <;> (have s := hw3.size; omega)) | (simp <;> (have s := hw2.size; omega)) | (have s0 := hw3.size; (try simp at s0); have s1 := hw2.size; (try simp at s1); (try simp); omega))
  have hB3 : Below w.heap.size w w3 := by repeat (first | (with_reducible exact Below.refl _ _) | (with_reducible refine Below.setCell ?_ ?_ _) | (with_reducible refine Below.drew ?_) | (with_reducible refine Below.alloc ?_ ?_ _) | (with_reducible refine Below.trans ?_ (Below.mono hw3 ?_)) | (with_reducible refine Below.trans ?_ (Below.mono hw2 ?_)) | (with_reducible refine Below.trans ?_ (Below.mono hw1 ?_)) | (with_reducible exact hw3.size) | (with_reducible exact hw2.size) | (with_reducible exact hw1.size) | omega | (simp <;> omega) | (simp <;> (have s := hw3.size; omega)) | (simp <;> (have s := hw2.size; omega)) | (simp <;> (have s := hw1.size; omega)) | (have s0 := hw3.size; (try simp at s0); have s1 := hw2.size; (try simp at s1); have s2 := hw1.size; (try simp at s2); (try simp); omega))
  have hgw2 : g < w2.heap.size := HL.out.lt
  have hg3 : w.heap.size + 1 + 1 < g := by omega
  have M0 : MS ([(w.heap.size, #[.int .i64 a, .int .i64 b, .int .i64 c, .slice (some ⟨bl, off, none⟩) L.length cap], 25), (w.heap.size + 1, #[.int .i64 u, .int .i64 v, .int .i64 t], 22), (w.heap.size + 1 + 1, #[.int .i64 0, .int .i64 0, .int .i64 0, .slice none 0 0], 25), (w2.heap.size, #[.int .i64 a, .int .i64 b, .int .i64 c, .slice (some ⟨g, 0, none⟩) L.length L.length], 25), (w2.heap.size + 1, #[.int .i64 a, .int .i64 b, .int .i64 c], 22)] : List (Nat × Array Value × TypeId)) g w3 (List.replicate L.length zero) := by
    refine ⟨?_, ?_, by rw [List.length_replicate]; omega⟩
    · intro b' cs t' hm
      simp only [List.mem_cons, Prod.mk.injEq, List.not_mem_nil, or_false] at hm
      rcases hm with ⟨rfl, rfl, rfl⟩ | ⟨rfl, rfl, rfl⟩ | ⟨rfl, rfl, rfl⟩ | ⟨rfl, rfl, rfl⟩ | ⟨rfl, rfl, rfl⟩
      · exact ⟨(hB13.block _ (by omega)).trans ((hw1.block _ (by simp; omega)).trans ((Below.heap_alloc _ _ _ (by simp; omega)).trans ((Below.heap_alloc _ _ _ (by simp)).trans (World.alloc_heap_new w _)))), by omega⟩
      · refine ⟨(hB13.block _ (by omega)).trans ((hw1.block _ (by simp)).trans ((Below.heap_alloc _ _ _ (by simp)).trans ?_)), by omega⟩
        have := World.alloc_heap_new (w.alloc (.cells #[.int .i64 a, .int .i64 b, .int .i64 c, .slice (some ⟨bl, off, none⟩) L.length cap] 25)) (.cells #[.int .i64 u, .int .i64 v, .int .i64 t] 22)
        rwa [World.size_alloc] at this
      · refine ⟨(hB13.block _ (by omega)).trans ((hw1.block _ (by simp)).trans ?_), by omega⟩
        have := World.alloc_heap_new ((w.alloc (.cells #[.int .i64 a, .int .i64 b, .int .i64 c, .slice (some ⟨bl, off, none⟩) L.length cap] 25)).alloc (.cells #[.int .i64 u, .int .i64 v, .int .i64 t] 22)) (.cells #[.int .i64 0, .int .i64 0, .int .i64 0, .slice none 0 0] 25)
        rwa [World.size_alloc, World.size_alloc] at this
      · exact ⟨(hw3.block _ (by simp)).trans (World.alloc_heap_new w2 _), by omega⟩
      · rw [World.size_alloc] at hbx
        exact ⟨hbx, by omega⟩
    · exact (HL.out.later ((Below.refl _ _).alloc (Nat.le_refl _) _)).later hw3
  have hlt3' := hlt3
  rw [World.size_alloc] at hlt3'
  refine wpIn_rangeFunc_ownH (n := 100) (F := Fence.wide) rfl (by decide) (gf := 100) (lb := #[.pointer (some ⟨w2.heap.size + 1, 0, none⟩)]) rfl trivial (enters_of Try.func100 (by kernel_rfl) rfl)
    (places_stops 99 (by decide) (w2.heap.size + 1) N a b c hz hN w3 (by omega) (by simpa using q0) (by simpa using q1) (by simpa using q2)) KB.trans (KB.put w3 (by omega)) (Below.refl _ _) (fun _ => rfl)
    (fun (pre : List (Fin N)) W => (∃ G, MS ([(w.heap.size, #[.int .i64 a, .int .i64 b, .int .i64 c, .slice (some ⟨bl, off, none⟩) L.length cap], 25), (w.heap.size + 1, #[.int .i64 u, .int .i64 v, .int .i64 t], 22), (w.heap.size + 1 + 1, #[.int .i64 0, .int .i64 0, .int .i64 0, .slice none 0 0], 25), (w2.heap.size, #[.int .i64 a, .int .i64 b, .int .i64 c, .slice (some ⟨g, 0, none⟩) L.length L.length], 25), (w2.heap.size + 1, #[.int .i64 a, .int .i64 b, .int .i64 c], 22)] : List (Nat × Array Value × TypeId)) g W G ∧ Filld T G (fun i => ∃ s : Fin N, s ∈ pre ∧ i / 3 = sh a b c u v t (s.val : Int))) ∧ Below w.heap.size w W)
    (fun _ _ _ => False)
    (OwnFrom.and (Own.from (fun (pre : List (Fin N)) W X row hs hg hr => by obtain ⟨G, h1, h2⟩ := hs; exact ⟨G, h1.kept hg hr, h2⟩) _) (ownFrom_below (Nat.le_refl _) (by omega)))
    (fun _ _ _ _ _ hs _ _ => hs)
    ⟨⟨_, M0, (Filld.none (by simp [HTL.out])).mono (fun i _ h => by obtain ⟨s, hs, _⟩ := h; simp at hs)⟩, hB3⟩
    (fun (s : Fin N) a' W => ∃ Bx, w2.heap.size + 1 < Bx ∧ PB W Bx ((s.val : Int) % a) ((s.val : Int) / a % b) ((s.val : Int) / a / b) ∧ a' = { tmps := #[.agg #[.int .i64 a, .int .i64 b, .int .i64 c, .slice (some ⟨bl, off, none⟩) L.length cap], .agg #[.int .i64 u, .int .i64 v, .int .i64 t], .pointer (some ⟨w.heap.size, 0, none⟩), .pointer (some ⟨w.heap.size + 1, 0, none⟩), .pointer (some ⟨w.heap.size + 1 + 1, 0, none⟩), .int .i64 0, .int .i64 0, .pointer (some ⟨w2.heap.size, 0, none⟩), .int .i64 (s.val : Int), .pointer (some ⟨Bx, 0, none⟩), undef, undef, undef, undef, .agg #[.int .i64 a, .int .i64 b, .int .i64 c, .slice (some ⟨bl, off, none⟩) L.length cap], .int .i64 0, .int .i64 0, .bool false, undef, undef, .pointer (some ⟨w.heap.size, 0, none⟩), .agg #[.int .i64 a, .int .i64 b, .int .i64 c], .agg #[.int .i64 a, .int .i64 b, .int .i64 c, .slice (some ⟨g, 0, none⟩) L.length L.length], .pointer (some ⟨w.heap.size, 0, none⟩), .agg #[.int .i64 a, .int .i64 b, .int .i64 c], .func (.func 100) #[] #[.pointer (some ⟨w2.heap.size + 1, 0, none⟩)], .int .i64 (s.val : Int), .agg #[.int .i64 ((s.val : Int) % a), .int .i64 ((s.val : Int) / a % b), .int .i64 ((s.val : Int) / a / b)], undef, undef, undef, undef, undef, undef, undef, undef, undef, undef, undef, undef, undef, undef, undef, undef, undef, undef, undef, undef, undef, undef, undef, undef, undef, undef, undef, undef, undef, undef, undef, undef, undef, undef, undef, undef, undef, undef, undef, undef, undef], defers := [] })
    (fun s a' _ X Y row hs hg hr => by obtain ⟨Bx, h1, h2, h3⟩ := hs; exact ⟨Bx, h1, h2.kept hg (fun r e => (hr r e).2), h3⟩)
    ?assign ?body ?done ?stop
  case assign =>
    rintro l pre s W K ⟨⟨G, hM, hG⟩, hB⟩ hK
    gi_wp2
    exact hK _ _ ((KeepsOthers.alloc _ _).from _) (Below.heap_alloc _ _ _ (hM.lt (b := w2.heap.size + 1) (cs := #[.int .i64 a, .int .i64 b, .int .i64 c]) (t := 22) (by simp))) ⟨⟨G, hM.below ((Below.refl _ _).alloc (Nat.le_refl _) _), hG⟩, hB.alloc hB.size _⟩ ⟨W.heap.size, hM.lt (b := w2.heap.size + 1) (cs := #[.int .i64 a, .int .i64 b, .int .i64 c]) (t := 22) (by simp), PB.new W _ _ _ _, rfl⟩
  case body =>
    rintro l pre s a' W hl' ⟨r, hr⟩ ⟨⟨G, hM, hG⟩, hB⟩ ⟨Bx, hBx, hP, rfl⟩ hpl
    have kc := @Tail.cell_re; have kc1 : ∀ (W : World) (o : Obj) (d : Nat) (os : Array Obj) (a : Addr), a.block ≤ W.heap.size → (Sort.grow (redrawn (W.alloc o) d) os).cell? a = (W.alloc o).cell? a := fun W o d os a h => Tail.cell_re (W.alloc o) d os a (Nat.lt_of_le_of_lt h (by simp))
    have s0 : 0 ≤ (s.val : Int) := by omega
    have s1 : (s.val : Int) < a * b * c := by have := s.isLt; omega
    obtain ⟨-, s16, -, -, e0, e1, m0, m4, k0, k4⟩ := div_rng hz s0 s1
    have u0 := Int.emod_nonneg u (show a ≠ 0 by have := hz.a1; omega)
    have u1 := Int.emod_lt_of_pos u (show 0 < a by have := hz.a1; omega)
    have v0 := Int.emod_nonneg v (show b ≠ 0 by have := hz.b1; omega)
    have v1 := Int.emod_lt_of_pos v (show 0 < b by have := hz.b1; omega)
    have t0 := Int.emod_nonneg t (show c ≠ 0 by have := hz.c1; omega)
    have t1 := Int.emod_lt_of_pos t (show 0 < c by have := hz.c1; omega)
    have a4 := hz.a4
    have b4 := hz.b4
    have c4 := hz.c4
    have cM0 := fun W : World => modulo_any u a W hz.a1 (by omega)
    have cM1 := fun W : World => modulo_any v b W hz.b1 (by omega)
    have cM2 := fun W : World => modulo_any t c W hz.c1 (by omega)
    have cS := fun W : World => siteAt_any a b c ((s.val : Int) % a + u % a) ((s.val : Int) / a % b + v % b) ((s.val : Int) / a / b + t % c) W hz
    have eS : site a b c ((s.val : Int) % a + u % a) ((s.val : Int) / a % b + v % b) ((s.val : Int) / a / b + t % c) = sh a b c u v t s.val := sh_mod a b c u v t s.val
    rw [eS] at cS
    have hsr := sh_rng hz u v t (s.val : Int)
    have hq16 : sh a b c u v t (s.val : Int) < 16 := by omega
    have hv0 := HT.out.g s.val 0 s0 s1 (by omega) (by omega)
    have hv1 := HT.out.g s.val 1 s0 s1 (by omega) (by omega)
    have hv2 := HT.out.g s.val 2 s0 s1 (by omega) (by omega)
    rw [Int.add_zero, Int.add_zero] at hv0
    have hGl := hG.1
    rw [HTL.out] at hGl
    have i0 : 3 * (s.val : Int) < (L.length : Int) := by omega
    have i1 : 3 * (s.val : Int) + 1 < (L.length : Int) := by omega
    have i2 : 3 * (s.val : Int) + 2 < (L.length : Int) := by omega
    have o0 : 3 * sh a b c u v t (s.val : Int) < (L.length : Int) := by omega
    have o1 : 3 * sh a b c u v t (s.val : Int) + 1 < (L.length : Int) := by omega
    have o2 : 3 * sh a b c u v t (s.val : Int) + 2 < (L.length : Int) := by omega
    have HZ0 := Lib.hid (lk_get (L := L) (i := 3 * (s.val : Int)) (by omega) i0)
    have HZ1 := Lib.hid (lk_get (L := L) (i := 3 * (s.val : Int) + 1) (by omega) i1)
    have HZ2 := Lib.hid (lk_get (L := L) (i := 3 * (s.val : Int) + 2) (by omega) i2)
    have hfin : Filld T (((G.set (3 * sh a b c u v t (s.val : Int)).toNat (lk L (3 * (s.val : Int)))).set (3 * sh a b c u v t (s.val : Int) + 1).toNat (lk L (3 * (s.val : Int) + 1))).set (3 * sh a b c u v t (s.val : Int) + 2).toNat (lk L (3 * (s.val : Int) + 2))) (fun i => ∃ s' : Fin N, s' ∈ pre ++ [s] ∧ i / 3 = sh a b c u v t (s'.val : Int)) := by
      rw [← hv0, ← hv1, ← hv2]
      refine (hG.three (s := sh a b c u v t (s.val : Int)) hsr.1 (by rw [HTL.out]; omega)).mono fun i _ hi => ?_
      obtain ⟨s', hs', he⟩ := hi
      simp only [List.mem_append, List.mem_singleton] at hs'
      rcases hs' with hs' | rfl
      · exact .inl ⟨s', hs', he⟩
      · exact .inr he
    have HFIN := Lib.hid hfin
    have HLI := Lib.hid hl
    have HGL := Lib.hid hGl
    have S0 : ST w W ([(w.heap.size, #[.int .i64 a, .int .i64 b, .int .i64 c, .slice (some ⟨bl, off, none⟩) L.length cap], 25), (w.heap.size + 1, #[.int .i64 u, .int .i64 v, .int .i64 t], 22), (w.heap.size + 1 + 1, #[.int .i64 0, .int .i64 0, .int .i64 0, .slice none 0 0], 25), (w2.heap.size, #[.int .i64 a, .int .i64 b, .int .i64 c, .slice (some ⟨g, 0, none⟩) L.length L.length], 25), (w2.heap.size + 1, #[.int .i64 a, .int .i64 b, .int .i64 c], 22)] : List (Nat × Array Value × TypeId)) g W G := ⟨hM, KeepsOthers.refl _, hB⟩
    have P0 := hP
    have hKB : ∀ b' cs t', (b', cs, t') ∈ ([(w.heap.size, #[.int .i64 a, .int .i64 b, .int .i64 c, .slice (some ⟨bl, off, none⟩) L.length cap], 25), (w.heap.size + 1, #[.int .i64 u, .int .i64 v, .int .i64 t], 22), (w.heap.size + 1 + 1, #[.int .i64 0, .int .i64 0, .int .i64 0, .slice none 0 0], 25), (w2.heap.size, #[.int .i64 a, .int .i64 b, .int .i64 c, .slice (some ⟨g, 0, none⟩) L.length L.length], 25), (w2.heap.size + 1, #[.int .i64 a, .int .i64 b, .int .i64 c], 22)] : List (Nat × Array Value × TypeId)) → b' ≠ Bx := by
      intro b' cs t' hm
      simp only [List.mem_cons, Prod.mk.injEq, List.not_mem_nil, or_false] at hm
      rcases hm with ⟨rfl, -, -⟩ | ⟨rfl, -, -⟩ | ⟨rfl, -, -⟩ | ⟨rfl, -, -⟩ | ⟨rfl, -, -⟩ <;> omega
    have j0 : ∀ w, (Instr.index 22 (.agg #[.int .i64 a, .int .i64 b, .int .i64 c]) (.int .i64 0)).run Try.prog w = .ok (.int .i64 a) w := fun _ => by kernel_rfl
    have j1 : ∀ w, (Instr.index 22 (.agg #[.int .i64 a, .int .i64 b, .int .i64 c]) (.int .i64 1)).run Try.prog w = .ok (.int .i64 b) w := fun _ => by kernel_rfl
    have j2 : ∀ w, (Instr.index 22 (.agg #[.int .i64 a, .int .i64 b, .int .i64 c]) (.int .i64 2)).run Try.prog w = .ok (.int .i64 c) w := fun _ => by kernel_rfl
    have hcW := S0.m.cell (b := w.heap.size) (cs := #[.int .i64 a, .int .i64 b, .int .i64 c, .slice (some ⟨bl, off, none⟩) L.length cap]) (t := 25) (by simp)
    have f0 := hcW 0 rfl
    have f1 := hcW 1 rfl
    have f2 := hcW 2 rfl
    generalize lk L (3 * (s.val : Int)) = z0 at *
    generalize lk L (3 * (s.val : Int) + 1) = z1 at *
    generalize lk L (3 * (s.val : Int) + 2) = z2 at *
    generalize sh a b c u v t (s.val : Int) = qi at *
    generalize (s.val : Int) % a = pa at *
    generalize (s.val : Int) / a % b = pb at *
    generalize (s.val : Int) / a / b = pc at *
    generalize (s.val : Int) = si at *
    generalize u % a = ua at *
    generalize v % b = ub at *
    generalize t % c = uc2 at *
    have hq0 : 0 ≤ qi := hsr.1
    have hq1 : 0 ≤ 3 * qi := by omega
    have hq2 : 0 ≤ 3 * qi + 1 := by omega
    have hq3 : 0 ≤ 3 * qi + 2 := by omega
    have hs1 : 0 ≤ 3 * si := by omega
    have hs2 : 0 ≤ 3 * si + 1 := by omega
    have hs3 : 0 ≤ 3 * si + 2 := by omega
    clear hsr hcW hfin eS hv0 hv1 hv2 hl hGl hG hM hP hF hz hN hn s1 cV cB cP
    gi_wp2_with fail
    refine wpIn_loop_rounds 4 ?_
    have y0 := S0.m.cell (b := w.heap.size + 1) (cs := #[.int .i64 u, .int .i64 v, .int .i64 t]) (t := 22) (by simp) 0 rfl
    have zy0 := S0.m.lt (b := w.heap.size + 1) (cs := #[.int .i64 u, .int .i64 v, .int .i64 t]) (t := 22) (by simp)
    have pc0 := P0.c0
    have pl0 := P0.lt
    rw [roundsIn_succ]
    gi_wp2_with fail
    refine TailIn.round_tail_below 9 (by kernel_rfl) (by kernel_rfl) (by kernel_rfl) ?_
    simp only [List.take_succ_cons, List.take_zero]
    repeat (go_big_quiet_step (first | (with_reducible exact Calls.regrown_of (cM0 _))))
    refine wpQuiet_nil ?_
    intro w4 hw4
    simp only [List.drop_succ_cons, List.drop_zero]
    have P4 := P0.below hw4
    have S4 := S0.below hw4
    have pd := P4.c0
    have pf := P4.fr
    have pm := P4.lt
    gi_wp2_with fail
    have S1 := S4.setCell Bx 0 (by omega) (by omega) hKB (.int .i64 (pa + ua))
    have P1 := P4.set0 (pa + ua)
    generalize w4.setCell ⟨Bx, 0, none⟩ (.int .i64 (pa + ua)) = X1 at *
    clear S4 P4 pd pf pm hw4 y0 zy0 pc0 pl0
    have y1 := S1.m.cell (b := w.heap.size + 1) (cs := #[.int .i64 u, .int .i64 v, .int .i64 t]) (t := 22) (by simp) 1 rfl
    have zy1 := S1.m.lt (b := w.heap.size + 1) (cs := #[.int .i64 u, .int .i64 v, .int .i64 t]) (t := 22) (by simp)
    have pc1 := P1.c1
    have pl1 := P1.lt
    rw [roundsIn_succ]
    gi_wp2_with fail
    refine TailIn.round_tail_below 9 (by kernel_rfl) (by kernel_rfl) (by kernel_rfl) ?_
    simp only [List.take_succ_cons, List.take_zero]
    repeat (go_big_quiet_step (first | (with_reducible exact Calls.regrown_of (cM1 _))))
    refine wpQuiet_nil ?_
    intro w4 hw4
    simp only [List.drop_succ_cons, List.drop_zero]
    have P4 := P1.below hw4
    have S4 := S1.below hw4
    have pd := P4.c1
    have pf := P4.fr
    have pm := P4.lt
    gi_wp2_with fail
    have S2 := S4.setCell Bx 1 (by omega) (by omega) hKB (.int .i64 (pb + ub))
    have P2 := P4.set1 (pb + ub)
    generalize w4.setCell ⟨Bx, 1, none⟩ (.int .i64 (pb + ub)) = X2 at *
    clear S4 P4 pd pf pm hw4 y1 zy1 pc1 pl1
    have y2 := S2.m.cell (b := w.heap.size + 1) (cs := #[.int .i64 u, .int .i64 v, .int .i64 t]) (t := 22) (by simp) 2 rfl
    have zy2 := S2.m.lt (b := w.heap.size + 1) (cs := #[.int .i64 u, .int .i64 v, .int .i64 t]) (t := 22) (by simp)
    have pc2 := P2.c2
    have pl2 := P2.lt
    rw [roundsIn_succ]
    gi_wp2_with fail
    refine TailIn.round_tail_below 9 (by kernel_rfl) (by kernel_rfl) (by kernel_rfl) ?_
    simp only [List.take_succ_cons, List.take_zero]
    repeat (go_big_quiet_step (first | (with_reducible exact Calls.regrown_of (cM2 _))))
    refine wpQuiet_nil ?_
    intro w4 hw4
    simp only [List.drop_succ_cons, List.drop_zero]
    have P4 := P2.below hw4
    have S4 := S2.below hw4
    have pd := P4.c2
    have pf := P4.fr
    have pm := P4.lt
    gi_wp2_with fail
    have S3 := S4.setCell Bx 2 (by omega) (by omega) hKB (.int .i64 (pc + uc2))
    have P3 := P4.set2 (pc + uc2)
    generalize w4.setCell ⟨Bx, 2, none⟩ (.int .i64 (pc + uc2)) = X3 at *
    clear S4 P4 pd pf pm hw4 y2 zy2 pc2 pl2
    have hc3 := S3.m.cell (b := w.heap.size) (cs := #[.int .i64 a, .int .i64 b, .int .i64 c, .slice (some ⟨bl, off, none⟩) L.length cap]) (t := 25) (by simp)
    have e0' := hc3 0 rfl
    have e1' := hc3 1 rfl
    have e2' := hc3 2 rfl
    have y0 := P3.c0
    have y1 := P3.c1
    have y2 := P3.c2
    clear hc3 f0 f1 f2
    rw [roundsIn_succ]
    gi_wp2_with (refine ⟨trivial, ?_⟩; gi_at_call 62; refine (CallsIn.inRound l (callsIn_wide.2 (cS _))).mono ?_; rintro e w5 ⟨rfl, hw5⟩)
    have S4 := S3.below (show Below X3.heap.size X3 w5 by repeat (first | (with_reducible exact Below.refl _ _) | (with_reducible refine Below.setCell ?_ ?_ _) | (with_reducible refine Below.drew ?_) | (with_reducible refine Below.alloc ?_ ?_ _) | (with_reducible refine Below.trans ?_ (Below.mono hw5 ?_)) | (with_reducible exact hw5.size) | omega | (simp <;> omega) | (simp <;> (have s := hw5.size; omega)) | (have s0 := hw5.size; (try simp at s0); (try simp); omega)))
    clear e0' e1' e2' y0 y1 y2 hw5 P3
    refine wpIn_loop_rounds 4 ?_
    have f0 := S4.m.cell (b := w.heap.size) (cs := #[.int .i64 a, .int .i64 b, .int .i64 c, .slice (some ⟨bl, off, none⟩) L.length cap]) (t := 25) (by simp) 3 rfl
    have f1 := S4.m.cell (b := w2.heap.size) (cs := #[.int .i64 a, .int .i64 b, .int .i64 c, .slice (some ⟨g, 0, none⟩) L.length L.length]) (t := 25) (by simp) 3 rfl
    have f2 := S4.m.lt (b := w.heap.size) (cs := #[.int .i64 a, .int .i64 b, .int .i64 c, .slice (some ⟨bl, off, none⟩) L.length cap]) (t := 25) (by simp)
    have f3 := S4.m.lt (b := w2.heap.size) (cs := #[.int .i64 a, .int .i64 b, .int .i64 c, .slice (some ⟨g, 0, none⟩) L.length L.length]) (t := 25) (by simp)
    obtain ⟨l0, l1, l2, l3, l4⟩ := (HLI.out.later S4.b) _ _ HZ0.out
    have f4 : bl < _ := World.block_lt_of_cell? _ _ l0
    have hi0 : (3 * qi).toNat < G.length := by (try simp only [List.length_set]); have := HGL.out; omega
    rw [roundsIn_succ]
    gi_wp2_with fail
    refine TailIn.round_tail_below 15 (by kernel_rfl) (by kernel_rfl) (by kernel_rfl) ?_
    simp only [List.take_succ_cons, List.take_zero]
    repeat (go_big_quiet_step (fail))
    refine wpQuiet_nil ?_
    intro w4 hw4
    simp only [List.drop_succ_cons, List.drop_zero]
    have S4 := S4.below hw4
    obtain ⟨g0, g1, g2, g3, g4⟩ := S4.m.l.at (List.getElem?_eq_getElem hi0)
    have gf := S4.m.l.free
    have gl := S4.m.l.lt
    gi_wp2_with fail
    have S5 : ST w W ([(w.heap.size, #[.int .i64 a, .int .i64 b, .int .i64 c, .slice (some ⟨bl, off, none⟩) L.length cap], 25), (w.heap.size + 1, #[.int .i64 u, .int .i64 v, .int .i64 t], 22), (w.heap.size + 1 + 1, #[.int .i64 0, .int .i64 0, .int .i64 0, .slice none 0 0], 25), (w2.heap.size, #[.int .i64 a, .int .i64 b, .int .i64 c, .slice (some ⟨g, 0, none⟩) L.length L.length], 25), (w2.heap.size + 1, #[.int .i64 a, .int .i64 b, .int .i64 c], 22)] : List (Nat × Array Value × TypeId)) g (((((w4.setCell ⟨g, (3 * qi).toNat * 5, none⟩ (.int .i64 z0.a)).setCell ⟨g, (3 * qi).toNat * 5 + 1, none⟩ (.int .i64 z0.b)).setCell ⟨g, (3 * qi).toNat * 5 + 2, none⟩ (.int .i64 z0.c)).setCell ⟨g, (3 * qi).toNat * 5 + 3, none⟩ (.int .i64 z0.d)).setCell ⟨g, (3 * qi).toNat * 5 + 4, none⟩ (.int .i64 z0.n)) (G.set (3 * qi).toNat z0) := S4.put (by omega) (3 * qi).toNat hi0 z0
    generalize ((((w4.setCell ⟨g, (3 * qi).toNat * 5, none⟩ (.int .i64 z0.a)).setCell ⟨g, (3 * qi).toNat * 5 + 1, none⟩ (.int .i64 z0.b)).setCell ⟨g, (3 * qi).toNat * 5 + 2, none⟩ (.int .i64 z0.c)).setCell ⟨g, (3 * qi).toNat * 5 + 3, none⟩ (.int .i64 z0.d)).setCell ⟨g, (3 * qi).toNat * 5 + 4, none⟩ (.int .i64 z0.n) = X5 at *
    clear S4 g0 g1 g2 g3 g4 gf gl hw4 f0 f1 f2 f3 f4 l0 l1 l2 l3 l4
    have f0 := S5.m.cell (b := w.heap.size) (cs := #[.int .i64 a, .int .i64 b, .int .i64 c, .slice (some ⟨bl, off, none⟩) L.length cap]) (t := 25) (by simp) 3 rfl
    have f1 := S5.m.cell (b := w2.heap.size) (cs := #[.int .i64 a, .int .i64 b, .int .i64 c, .slice (some ⟨g, 0, none⟩) L.length L.length]) (t := 25) (by simp) 3 rfl
    have f2 := S5.m.lt (b := w.heap.size) (cs := #[.int .i64 a, .int .i64 b, .int .i64 c, .slice (some ⟨bl, off, none⟩) L.length cap]) (t := 25) (by simp)
    have f3 := S5.m.lt (b := w2.heap.size) (cs := #[.int .i64 a, .int .i64 b, .int .i64 c, .slice (some ⟨g, 0, none⟩) L.length L.length]) (t := 25) (by simp)
    obtain ⟨l0, l1, l2, l3, l4⟩ := (HLI.out.later S5.b) _ _ HZ1.out
    have f4 : bl < _ := World.block_lt_of_cell? _ _ l0
    have hi1 : (3 * qi + 1).toNat < (G.set (3 * qi).toNat z0).length := by (try simp only [List.length_set]); have := HGL.out; omega
    rw [roundsIn_succ]
    gi_wp2_with fail
    refine TailIn.round_tail_below 15 (by kernel_rfl) (by kernel_rfl) (by kernel_rfl) ?_
    simp only [List.take_succ_cons, List.take_zero]
    repeat (go_big_quiet_step (fail))
    refine wpQuiet_nil ?_
    intro w4 hw4
    simp only [List.drop_succ_cons, List.drop_zero]
    have S4 := S5.below hw4
    obtain ⟨g0, g1, g2, g3, g4⟩ := S4.m.l.at (List.getElem?_eq_getElem hi1)
    have gf := S4.m.l.free
    have gl := S4.m.l.lt
    gi_wp2_with fail
    have S6 : ST w W ([(w.heap.size, #[.int .i64 a, .int .i64 b, .int .i64 c, .slice (some ⟨bl, off, none⟩) L.length cap], 25), (w.heap.size + 1, #[.int .i64 u, .int .i64 v, .int .i64 t], 22), (w.heap.size + 1 + 1, #[.int .i64 0, .int .i64 0, .int .i64 0, .slice none 0 0], 25), (w2.heap.size, #[.int .i64 a, .int .i64 b, .int .i64 c, .slice (some ⟨g, 0, none⟩) L.length L.length], 25), (w2.heap.size + 1, #[.int .i64 a, .int .i64 b, .int .i64 c], 22)] : List (Nat × Array Value × TypeId)) g (((((w4.setCell ⟨g, (3 * qi + 1).toNat * 5, none⟩ (.int .i64 z1.a)).setCell ⟨g, (3 * qi + 1).toNat * 5 + 1, none⟩ (.int .i64 z1.b)).setCell ⟨g, (3 * qi + 1).toNat * 5 + 2, none⟩ (.int .i64 z1.c)).setCell ⟨g, (3 * qi + 1).toNat * 5 + 3, none⟩ (.int .i64 z1.d)).setCell ⟨g, (3 * qi + 1).toNat * 5 + 4, none⟩ (.int .i64 z1.n)) ((G.set (3 * qi).toNat z0).set (3 * qi + 1).toNat z1) := S4.put (by omega) (3 * qi + 1).toNat hi1 z1
    generalize ((((w4.setCell ⟨g, (3 * qi + 1).toNat * 5, none⟩ (.int .i64 z1.a)).setCell ⟨g, (3 * qi + 1).toNat * 5 + 1, none⟩ (.int .i64 z1.b)).setCell ⟨g, (3 * qi + 1).toNat * 5 + 2, none⟩ (.int .i64 z1.c)).setCell ⟨g, (3 * qi + 1).toNat * 5 + 3, none⟩ (.int .i64 z1.d)).setCell ⟨g, (3 * qi + 1).toNat * 5 + 4, none⟩ (.int .i64 z1.n) = X6 at *
    clear S4 g0 g1 g2 g3 g4 gf gl hw4 f0 f1 f2 f3 f4 l0 l1 l2 l3 l4
    have f0 := S6.m.cell (b := w.heap.size) (cs := #[.int .i64 a, .int .i64 b, .int .i64 c, .slice (some ⟨bl, off, none⟩) L.length cap]) (t := 25) (by simp) 3 rfl
    have f1 := S6.m.cell (b := w2.heap.size) (cs := #[.int .i64 a, .int .i64 b, .int .i64 c, .slice (some ⟨g, 0, none⟩) L.length L.length]) (t := 25) (by simp) 3 rfl
    have f2 := S6.m.lt (b := w.heap.size) (cs := #[.int .i64 a, .int .i64 b, .int .i64 c, .slice (some ⟨bl, off, none⟩) L.length cap]) (t := 25) (by simp)
    have f3 := S6.m.lt (b := w2.heap.size) (cs := #[.int .i64 a, .int .i64 b, .int .i64 c, .slice (some ⟨g, 0, none⟩) L.length L.length]) (t := 25) (by simp)
    obtain ⟨l0, l1, l2, l3, l4⟩ := (HLI.out.later S6.b) _ _ HZ2.out
    have f4 : bl < _ := World.block_lt_of_cell? _ _ l0
    have hi2 : (3 * qi + 2).toNat < ((G.set (3 * qi).toNat z0).set (3 * qi + 1).toNat z1).length := by (try simp only [List.length_set]); have := HGL.out; omega
    rw [roundsIn_succ]
    gi_wp2_with fail
    refine TailIn.round_tail_below 15 (by kernel_rfl) (by kernel_rfl) (by kernel_rfl) ?_
    simp only [List.take_succ_cons, List.take_zero]
    repeat (go_big_quiet_step (fail))
    refine wpQuiet_nil ?_
    intro w4 hw4
    simp only [List.drop_succ_cons, List.drop_zero]
    have S4 := S6.below hw4
    obtain ⟨g0, g1, g2, g3, g4⟩ := S4.m.l.at (List.getElem?_eq_getElem hi2)
    have gf := S4.m.l.free
    have gl := S4.m.l.lt
    gi_wp2_with fail
    have S7 : ST w W ([(w.heap.size, #[.int .i64 a, .int .i64 b, .int .i64 c, .slice (some ⟨bl, off, none⟩) L.length cap], 25), (w.heap.size + 1, #[.int .i64 u, .int .i64 v, .int .i64 t], 22), (w.heap.size + 1 + 1, #[.int .i64 0, .int .i64 0, .int .i64 0, .slice none 0 0], 25), (w2.heap.size, #[.int .i64 a, .int .i64 b, .int .i64 c, .slice (some ⟨g, 0, none⟩) L.length L.length], 25), (w2.heap.size + 1, #[.int .i64 a, .int .i64 b, .int .i64 c], 22)] : List (Nat × Array Value × TypeId)) g (((((w4.setCell ⟨g, (3 * qi + 2).toNat * 5, none⟩ (.int .i64 z2.a)).setCell ⟨g, (3 * qi + 2).toNat * 5 + 1, none⟩ (.int .i64 z2.b)).setCell ⟨g, (3 * qi + 2).toNat * 5 + 2, none⟩ (.int .i64 z2.c)).setCell ⟨g, (3 * qi + 2).toNat * 5 + 3, none⟩ (.int .i64 z2.d)).setCell ⟨g, (3 * qi + 2).toNat * 5 + 4, none⟩ (.int .i64 z2.n)) (((G.set (3 * qi).toNat z0).set (3 * qi + 1).toNat z1).set (3 * qi + 2).toNat z2) := S4.put (by omega) (3 * qi + 2).toNat hi2 z2
    generalize ((((w4.setCell ⟨g, (3 * qi + 2).toNat * 5, none⟩ (.int .i64 z2.a)).setCell ⟨g, (3 * qi + 2).toNat * 5 + 1, none⟩ (.int .i64 z2.b)).setCell ⟨g, (3 * qi + 2).toNat * 5 + 2, none⟩ (.int .i64 z2.c)).setCell ⟨g, (3 * qi + 2).toNat * 5 + 3, none⟩ (.int .i64 z2.d)).setCell ⟨g, (3 * qi + 2).toNat * 5 + 4, none⟩ (.int .i64 z2.n) = X7 at *
    clear S4 g0 g1 g2 g3 g4 gf gl hw4 f0 f1 f2 f3 f4 l0 l1 l2 l3 l4
    rw [roundsIn_succ]
    gi_wp2_with fail
    exact ⟨S7.o.from _, ((S7.m.k (w2.heap.size + 1) _ _ (by simp)).1).trans (S0.m.k (w2.heap.size + 1) #[.int .i64 a, .int .i64 b, .int .i64 c] 22 (by simp)).1.symm, ⟨⟨_, S7.m, HFIN.out⟩, S7.b⟩⟩
  case done =>
    rintro D ys W hD hys ⟨⟨G, hM, hG⟩, hB⟩ hK
    have hGT : G = T := hG.full fun i i0 i1 => by
      rw [HTL.out, hn] at i1
      obtain ⟨s, s0, s1, he⟩ := sh_ex hz u v t (t := i / 3) (by omega) (by omega)
      have hm : s.toNat ∈ List.map Fin.val ys := by rw [hys, List.mem_range]; omega
      obtain ⟨y, hy, e⟩ := List.mem_map.1 hm
      refine ⟨y, hy, ?_⟩
      have : (y.val : Int) = s := by omega
      rw [this, he]
    have hMk := hM.k
    have cS := hM.cell (b := w2.heap.size) (cs := #[.int .i64 a, .int .i64 b, .int .i64 c, .slice (some ⟨g, 0, none⟩) L.length L.length]) (t := 25) (by simp)
    have e0 := cS 0 rfl
    have e1 := cS 1 rfl
    have e2 := cS 2 rfl
    have e3 := cS 3 rfl
    have cR := hM.cell (b := w.heap.size + 1 + 1) (cs := #[.int .i64 0, .int .i64 0, .int .i64 0, .slice none 0 0]) (t := 25) (by simp)
    have r0 := cR 0 rfl
    have r1 := cR 1 rfl
    have r2 := cR 2 rfl
    have r3 := cR 3 rfl
    have rf := hM.free (b := w.heap.size + 1 + 1) (cs := #[.int .i64 0, .int .i64 0, .int .i64 0, .slice none 0 0]) (t := 25) (by simp)
    have rl := hM.lt (b := w.heap.size + 1 + 1) (cs := #[.int .i64 0, .int .i64 0, .int .i64 0, .slice none 0 0]) (t := 25) (by simp)
    clear cS cR hMk hG
    gi_wp2
    have hgD : g < D := by omega
    have hRD : w.heap.size + 1 + 1 < D := by omega
    have hMl := hM.l
    subst hGT
    obtain ⟨X, hX⟩ : ∃ X, X = (((W.setCell ⟨w.heap.size + 1 + 1, 0, none⟩ (.int .i64 a)).setCell ⟨w.heap.size + 1 + 1, 1, none⟩ (.int .i64 b)).setCell ⟨w.heap.size + 1 + 1, 2, none⟩ (.int .i64 c)).setCell ⟨w.heap.size + 1 + 1, 3, none⟩ (.slice (some ⟨g, 0, none⟩) L.length L.length) := ⟨_, rfl⟩
    have gX : W.grownBy X (some (w.heap.size + 1 + 1)) := by
      rw [hX]
      exact grown_setCells (w.heap.size + 1 + 1) [.int .i64 a, .int .i64 b, .int .i64 c, .slice (some ⟨g, 0, none⟩) L.length L.length] 0 W
    have x0 : X.cell? ⟨w.heap.size + 1 + 1, 0, none⟩ = some (.int .i64 a) := by rw [hX]; simp [go_sem, r0, r1, r2, r3]
    have x1 : X.cell? ⟨w.heap.size + 1 + 1, 1, none⟩ = some (.int .i64 b) := by rw [hX]; simp [go_sem, r0, r1, r2, r3]
    have x2 : X.cell? ⟨w.heap.size + 1 + 1, 2, none⟩ = some (.int .i64 c) := by rw [hX]; simp [go_sem, r0, r1, r2, r3]
    have x3 : X.cell? ⟨w.heap.size + 1 + 1, 3, none⟩ = some (.slice (some ⟨g, 0, none⟩) L.length L.length) := by rw [hX]; simp [go_sem, r0, r1, r2, r3]
    rw [← hX]
    have hXs := gX.size
    have hK2 : X.heap[D]? = some (.deferred (some [])) := (gX.block D (Array.getElem?_eq_some_iff.1 hK).1 (by simp; omega)).trans hK
    have hLX := hMl.grown gX (by simp; omega)
    have hBX := hB.grown gX hB.size (fun j e => by cases e; omega)
    clear hX gX r0 r1 r2 r3 rf rl e0 e1 e2 e3 hMl hM hB hK
    refine ⟨by simp, .inl ⟨_, _, rfl, run_takeDeferred hK2, ?_⟩⟩
    have pc : ∀ (k o : Nat), k < D → (X.putObj D (.deferred none)).cell? ⟨k, o, none⟩ = X.cell? ⟨k, o, none⟩ := fun k o h => World.cell?_of_block (w := X) (a := ⟨k, o, none⟩) (World.putObj_heap_other (by dsimp only; omega))
    rw [← pc _ _ hRD] at x0 x1 x2 x3
    refine ⟨.tuple #[.agg #[.int .i64 a, .int .i64 b, .int .i64 c, .slice (some ⟨g, 0, none⟩) L.length L.length], .int .i64 0], ?_, ⟨g, L.length, rfl, (hLX.grown (grownBy_putObj' X D _) (by simp; omega)).h, ?_⟩⟩
    · simp [results, Try.results19, go_sem, x0, x1, x2, x3]
    · exact hBX.trans (belowK_b (w := w) (Nat.le_refl _) X D _ _ (by omega) hK2 rfl rfl)
  case stop =>
    rintro D c pre W _ _ h _
    exact h.elim

theorem shift_ok (a b c u v t : Int) (bl off cap : Nat) (L : List Q) (w : World) (hl : Lies w bl off L) (hF : Fl a b c L) :
    Calls Try.prog 19 #[.agg #[.int .i64 a, .int .i64 b, .int .i64 c, .slice (some ⟨bl, off, none⟩) L.length cap], .agg #[.int .i64 u, .int .i64 v, .int .i64 t]] w fun e w' => ∃ g k : Nat, e = .returned (.tuple #[.agg #[.int .i64 a, .int .i64 b, .int .i64 c, .slice (some ⟨g, 0, none⟩) L.length k], .int .i64 0]) ∧ Lies w' g 0 (shL a b c u v t L) ∧ Below w.heap.size w w' := by
  obtain ⟨-, -, p3, -⟩ := mul_rng hF.z.a1 hF.z.a4 hF.z.b1 hF.z.b4 hF.z.c1 hF.z.c4
  exact callsIn_wide.1 (shift_in a b c u v t bl off cap (a * b * c).toNat L w hl hF (by omega))

set_option maxHeartbeats 800000 in
theorem shift_bad (a b c u v t r : Int) (ao : Option Addr) (cap : Nat) (L : List Q) (w : World) (h : LiesO w ao L) (hr : fldR a b c L r) (hlen : L.length ≤ 1000000) (hne : (r == 0) = false) (hne' : (r != 0) = true) :
    Calls Try.prog 19 #[.agg #[.int .i64 a, .int .i64 b, .int .i64 c, .slice ao L.length cap], .agg #[.int .i64 u, .int .i64 v, .int .i64 t]] w fun e w' => e = .returned (.tuple #[.agg #[.int .i64 0, .int .i64 0, .int .i64 0, .slice none 0 0], .int .i64 r]) ∧ Below w.heap.size w w' := by
  have cV := fun (W : World) (h : LiesO W ao L) => validateF_any a b c r ao cap L W h hr hlen
  have H := Lib.hid h
  clear h hr
  go_enter Try.func19, Try.ntmps19
  go_wp2_with ((with_reducible refine (cV _ (H.out.later (by repeat (first | (with_reducible exact Below.refl _ _) | (with_reducible refine Below.setCell ?_ ?_ _) | (with_reducible refine Below.drew ?_) | (with_reducible refine Below.alloc ?_ ?_ _) | omega | (simp <;> omega))))).mono ?_); rintro e w1 ⟨rfl, hw1⟩; have hc := Tail.cells hw1; have zw10 := Nat.lt_of_lt_of_le (n := w.heap.size) (by simp <;> omega) hw1.size; have zw11 := Nat.lt_of_lt_of_le (n := w.heap.size + 1) (by simp <;> omega) hw1.size; have zw12 := Nat.lt_of_lt_of_le (n := w.heap.size + 2) (by simp <;> omega) hw1.size)
  refine bodyPost_ret (v := .tuple #[.agg #[.int .i64 0, .int .i64 0, .int .i64 0, .slice none 0 0], .int .i64 r]) ?_ rfl ⟨rfl, ?_⟩
  · simp [results, Try.results19, go_sem, hc, zw10, zw11, zw12]
  · repeat (first | (with_reducible exact Below.refl _ _) | (with_reducible refine Below.setCell ?_ ?_ _) | (with_reducible refine Below.drew ?_) | (with_reducible refine Below.alloc ?_ ?_ _) | (with_reducible refine Below.trans ?_ (Below.mono hw1 ?_)) | (with_reducible exact hw1.size) | omega | (simp <;> omega) | (simp <;> (have s := hw1.size; omega)) | (have s0 := hw1.size; (try simp at s0); (try simp); omega))
end Go.Proofs.Ytmmkhkkmgjighaa
