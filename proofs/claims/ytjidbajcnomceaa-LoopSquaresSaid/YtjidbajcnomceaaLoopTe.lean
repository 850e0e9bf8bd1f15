/- Products of sums of loops, as the document makes them: the walk.
Conditions: those written at each theorem. -/
import Derived.Test.YtjidbajcnomceaaLoopTd
namespace Go.Proofs.Ytjidbajcnomceaa
set_option linter.unusedVariables false
set_option linter.unusedSimpArgs false
set_option maxRecDepth 1000000
open Go.RowKit Go.Sort
open Um Tm Lm

theorem own_mono {w : World} {B C : Nat} {T : TypeId} {z n : Nat} {v : Value} {xs : List Value} (h : w.ownsRow B T z v n xs) (hC : C ≤ B) : w.ownsRow C T z v n xs := by
  refine ⟨h.1, ?_⟩
  rcases h.2 with h | ⟨g, cap, cur, h1, h2, h3⟩
  · exact .inl h
  · exact .inr ⟨g, cap, cur, h1, Nat.le_trans hC h2, h3⟩
set_option maxHeartbeats 12800000 in
theorem refTimes_ok (ao bo : Option Addr) (ca cb : Nat) (l m : List E) (w : World) (h : Trs w ao l) (h2 : Trs w bo m) (hv : vT (tm l) = 0) (hv2 : vT (tm m) = 0) :
    Calls Try.prog 51 #[.slice ao l.length ca, .slice bo m.length cb] w fun e w' => RetD (plo (rawP (tm l) (tm m))) e w' ∧ Below w.heap.size w w' := by
  obtain ⟨hl, hs⟩ := vT_small2 hv
  obtain ⟨hm, hq⟩ := vT_small2 hv2
  have cV := fun W h1 h2 => both_any ao bo ca cb l m W h1 h2 (by omega) (fun e he => by have := (hs e he).2.1; omega) (by omega) (fun e he => by have := (hq e he).2.1; omega)
  rw [show bothR l m = 0 by unfold bothR; rw [if_pos hv]; exact hv2] at cV
  have H := Lib.hid h
  have H2 := Lib.hid h2
  have HS := Lib.hid hs
  have HQ := Lib.hid hq
  clear h h2 hv hv2 hs hq
  have kc := @Tail.cell_re
  have kc1 : ∀ (W : World) (o : Obj) (d : Nat) (os : Array Obj) (a : Addr), a.block ≤ W.heap.size → (Sort.grow (redrawn (W.alloc o) d) os).cell? a = (W.alloc o).cell? a := fun W o d os a h => Tail.cell_re (W.alloc o) d os a (Nat.lt_of_le_of_lt h (by simp))
  go_enter Try.func51, Try.ntmps51
  go_wp2_with (fail)
  refine (cV _ (H.out.later (by repeat (first | (with_reducible exact Below.refl _ _) | (with_reducible refine Below.setCell ?_ ?_ _) | (with_reducible refine Below.drew ?_) | (with_reducible refine Below.alloc ?_ ?_ _) | omega | (simp <;> omega)))) (H2.out.later (by repeat (first | (with_reducible exact Below.refl _ _) | (with_reducible refine Below.setCell ?_ ?_ _) | (with_reducible refine Below.drew ?_) | (with_reducible refine Below.alloc ?_ ?_ _) | omega | (simp <;> omega))))).mono ?_
  rintro e w1 ⟨rfl, hw1⟩
  have hb1 : Below w.heap.size w w1 := by repeat (first | (with_reducible exact Below.refl _ _) | (with_reducible refine Below.setCell ?_ ?_ _) | (with_reducible refine Below.drew ?_) | (with_reducible refine Below.alloc ?_ ?_ _) | (with_reducible refine Below.trans ?_ (Below.mono hw1 ?_)) | (with_reducible exact hw1.size) | omega | (simp <;> omega) | (simp <;> (have s := hw1.size; omega)) | (have s0 := hw1.size; (try simp at s0); (try simp); omega))
  clear cV hw1
  go_wp2
  go_loopw [7, 8, 9, 10, 11] (fun f q _ _ _ wr => ∃ (i n : Nat) (ts : List E) (ro : Option Addr) (rc : Nat), i ≤ l.length ∧ n = i * (2 * m.length) ∧ q = .int .i64 i ∧ f = .slice ro n rc ∧ Hid (Td wr w.heap.size ro n rc (tm l) (tm m) i 0 ts) ∧ Below w.heap.size w wr) (fun _ q _ _ _ _ => l.length - (intOf q).toNat)
  case atStart => exact ⟨0, 0, [], none, 0, by omega, by simp, rfl, rfl, Lib.hid (Td.zero _ _ _ _), hb1⟩
  case round =>
    obtain ⟨i, n, ts, ro, rc, hi, hn, rfl, rfl, HD, hb⟩ := hrel
    clear hb1
    have HN0 := Lib.hid hn
    clear hn
    by_cases hlt : i < l.length
    · have i1 : (i : Int) < (l.length : Int) := by omega
      obtain ⟨wo, rfl⟩ : ∃ wo : World, wo = wr := ⟨_, rfl⟩
      go_wp2
      go_loopw [7, 9, 10, 11] (fun f q _ _ wr => ∃ (j n : Nat) (ts : List E) (ro : Option Addr) (rc : Nat), j ≤ m.length ∧ Hid (n = i * (2 * m.length) + 2 * j) ∧ q = .int .i64 j ∧ f = .slice ro n rc ∧ Hid (Td wr w.heap.size ro n rc (tm l) (tm m) i j ts) ∧ Below w.heap.size w wr) (fun _ q _ _ _ => m.length - (intOf q).toNat)
      case atStart => exact ⟨0, n, ts, ro, rc, by omega, Lib.hid (by rw [HN0.out]; simp), rfl, rfl, HD, hb⟩
      case round =>
        obtain ⟨j, n, ts, ro, rc, hj, HN, rfl, rfl, HD, hb⟩ := hrel
        by_cases hjt : j < m.length
        · have i2 : (j : Int) < (m.length : Int) := by omega
          obtain ⟨b1, o1, rfl, u0, -, hx⟩ := H.out.at_ hlt
          have lw1 := World.block_lt_of_cell? w _ u0
          obtain ⟨b1', o1', he, x0, x1, -⟩ := (H.out.later hb).at_ hlt
          simp only [Option.some.injEq, Addr.mk.injEq, and_true] at he
          obtain ⟨rfl, rfl⟩ := he
          obtain ⟨b2, o2, rfl, v0, -, hy⟩ := H2.out.at_ hjt
          have lw2 := World.block_lt_of_cell? w _ v0
          obtain ⟨b2', o2', he, y0, y1, -⟩ := (H2.out.later hb).at_ hjt
          simp only [Option.some.injEq, Addr.mk.injEq, and_true] at he
          obtain ⟨rfl, rfl⟩ := he
          clear u0 v0
          have lb1 := World.block_lt_of_cell? wr _ x0
          have lb2 := World.block_lt_of_cell? wr _ y0
          obtain ⟨hc, hp8, hps⟩ := HS.out _ (List.getElem_mem hlt)
          obtain ⟨hd, hq8, hqs⟩ := HQ.out _ (List.getElem_mem hjt)
          have hu : (tm l)[i]'(by rw [tm_len]; exact hlt) = (l[i].c, l[i].p) := tm_get _ _ _
          have hv : (tm m)[j]'(by rw [tm_len]; exact hjt) = (m[j].c, m[j].p) := tm_get _ _ _
          have hmul := mul_rng2 hc.1 hc.2 hd.1 hd.2
          generalize l[i] = x at *
          generalize m[j] = y at *
          obtain ⟨c, p, pa, pk⟩ := x
          obtain ⟨d, q, qa, qk⟩ := y
          simp only at *
          obtain ⟨m1, m2⟩ := hmul
          have HX := Lib.hid hx
          have HY := Lib.hid hy
          have HU := Lib.hid hu
          have HV := Lib.hid hv
          have HPS := Lib.hid hps
          have HQS := Lib.hid hqs
          have hnn : n ≤ 3200 := by
            rw [HN.out]
            have h1 := Nat.mul_le_mul_right (2 * m.length) (show i + 1 ≤ l.length from hlt)
            rw [Nat.succ_mul] at h1
            have h3 := Nat.mul_le_mul (show l.length ≤ 40 from hl) (show 2 * m.length ≤ 80 by omega)
            omega
          obtain ⟨pq, hpq⟩ : ∃ pq, pq = p ++ q := ⟨_, rfl⟩
          obtain ⟨po, hpo⟩ : ∃ po, po = p ++ opp q := ⟨_, rfl⟩
          have HPQ := Lib.hid hpq
          have HPO := Lib.hid hpo
          have hne : some b1 ≠ (Value.slice ro n rc).ownBlock := fun e => absurd (HD.out.own.lt b1 e.symm).1 (by omega)
          have hne2 : some b2 ≠ (Value.slice ro n rc).ownBlock := fun e => absurd (HD.out.own.lt b2 e.symm).1 (by omega)
          clear hx hy hu hv hps hqs hc hd hpq hpo
          go_wp2
          refine Tail.region_below (by kernel_rfl) (by kernel_rfl) ?_
          repeat (go_big_quiet_step (fail))
          refine wpQuiet_nil ?_
          intro X0 hX0
          have x0 := cell_keep hX0 x0
          have x1 := cell_keep hX0 x1
          have y0 := cell_keep hX0 y0
          have y1 := cell_keep hX0 y1
          have hbX : Below w.heap.size w X0 := by repeat (first | (with_reducible exact Below.refl _ _) | (with_reducible refine Below.setCell ?_ ?_ _) | (with_reducible refine Below.drew ?_) | (with_reducible refine Below.alloc ?_ ?_ _) | (with_reducible refine Below.trans ?_ (Below.mono hX0 ?_)) | (with_reducible refine Below.trans ?_ (Below.mono hb ?_)) | (with_reducible exact hX0.size) | (with_reducible exact hb.size) | omega | (simp <;> omega) | (simp <;> (have s := hX0.size; omega)) | (simp <;> (have s := hb.size; omega)) | (have s0 := hX0.size; (try simp at s0); have s1 := hb.size; (try simp at s1); (try simp); omega))
          have hbs := hbX.size
          have HD0 := Lib.hid (HD.out.later hX0)
          have lb1 := World.block_lt_of_cell? X0 _ x0
          have lb2 := World.block_lt_of_cell? X0 _ y0
          clear HD hX0 hb
          have hbA : Below X0.heap.size X0 (X0.alloc (.cells #[] 3)).drew := by repeat (first | (with_reducible exact Below.refl _ _) | (with_reducible refine Below.setCell ?_ ?_ _) | (with_reducible refine Below.drew ?_) | (with_reducible refine Below.alloc ?_ ?_ _) | omega | (simp <;> omega))
          have ho0 : (X0.alloc (.cells #[] 3)).drew.ownsRow X0.heap.size 3 1 (.slice (some ⟨X0.heap.size, 0, none⟩) 0 0) 0 [] := (World.ownsRow_lit X0 #[] 0 (Nat.le_refl _) (by unfold maxLen; omega) (by simp)).drew
          have HO0 := Lib.hid ho0
          have HF0 := Lib.hid HD0.out.own
          have HI0 := Lib.hid HD0.out.pi
          clear ho0
          go_wp2
          go_region_held3 (fun w' => w'.cell? ⟨b2, o2 + j * 2 + 1, none⟩ = some (.slice qa q.length qk))
            (first
              | (exact hgrow4.cell (cell_keep (W := X0) (by repeat (first | (with_reducible exact Below.refl _ _) | (with_reducible refine Below.setCell ?_ ?_ _) | (with_reducible refine Below.drew ?_) | (with_reducible refine Below.alloc ?_ ?_ _) | (with_reducible refine Below.trans ?_ (Below.mono bX3 ?_)) | (with_reducible exact bX3.size) | omega | (simp <;> omega) | (simp <;> (have s := bX3.size; omega)) | (have s0 := bX3.size; (try simp at s0); (try simp); omega))) y1) hne2)
              | (exact cell_keep (W := X0) (by repeat (first | (with_reducible exact Below.refl _ _) | (with_reducible refine Below.setCell ?_ ?_ _) | (with_reducible refine Below.drew ?_) | (with_reducible refine Below.alloc ?_ ?_ _) | (with_reducible refine Below.trans ?_ (Below.mono bX3 ?_)) | (with_reducible exact bX3.size) | omega | (simp <;> omega) | (simp <;> (have s := bX3.size; omega)) | (have s0 := bX3.size; (try simp at s0); (try simp); omega))) y1)
              | (exact cell_keep (W := X0) (by repeat (first | (with_reducible exact Below.refl _ _) | (with_reducible refine Below.setCell ?_ ?_ _) | (with_reducible refine Below.drew ?_) | (with_reducible refine Below.alloc ?_ ?_ _) | (with_reducible refine Below.trans ?_ (Below.mono bX2 ?_)) | (with_reducible exact bX2.size) | omega | (simp <;> omega) | (simp <;> (have s := bX2.size; omega)) | (have s0 := bX2.size; (try simp at s0); (try simp); omega))) y1)
              | go_keep)
            ((first
              | (refine step_append_ints (by rfl) _ _ (by rfl) X0.heap.size (.slice (some ⟨X0.heap.size, 0, none⟩) 0 0) 0 [] pa pk p (by rfl) (by rfl) HO0.out (HX.out.later (by repeat (first | (with_reducible exact Below.refl _ _) | (with_reducible refine Below.setCell ?_ ?_ _) | (with_reducible refine Below.drew ?_) | (with_reducible refine Below.alloc ?_ ?_ _) | (with_reducible refine Below.trans ?_ (Below.mono hbX ?_)) | (with_reducible exact hbX.size) | omega | (simp <;> omega) | (simp <;> (have s := hbX.size; omega)) | (have s0 := hbX.size; (try simp at s0); (try simp); omega)))) (by simp) (by omega) ?_; intro v2 w2 hown2 hgrow2; have bX2 : Below X0.heap.size X0 w2 := (Below.grown hbA hgrow2 hbA.size (fun j hj => by simp [Value.ownBlock] at hj; omega)); have hw2 : w2.ownsRow X0.heap.size 3 1 v2 p.length (p.map vi) := (by simpa using hown2); obtain ⟨a2, k2, rfl, -, -⟩ := owned_liesNI hw2; have HW2 := Lib.hid hw2; have sX2 := bX2.size; clear hown2 hw2)
              | (refine step_append_ints (by rfl) _ _ (by rfl) X0.heap.size (.slice a2 p.length k2) p.length (p.map vi) qa qk q (by rfl) (by rfl) HW2.out (HY.out.later (by repeat (first | (with_reducible exact Below.refl _ _) | (with_reducible refine Below.setCell ?_ ?_ _) | (with_reducible refine Below.drew ?_) | (with_reducible refine Below.alloc ?_ ?_ _) | (with_reducible refine Below.trans ?_ (Below.mono bX2 ?_)) | (with_reducible refine Below.trans ?_ (Below.mono hbX ?_)) | (with_reducible exact bX2.size) | (with_reducible exact hbX.size) | omega | (simp <;> omega) | (simp <;> (have s := bX2.size; omega)) | (simp <;> (have s := hbX.size; omega)) | (have s0 := bX2.size; (try simp at s0); have s1 := hbX.size; (try simp at s1); (try simp); omega)))) (by omega) (by omega) ?_; intro v3 w3 hown3 hgrow3; have bX3 : Below X0.heap.size X0 w3 := (bX2.grown hgrow3 sX2 (fun j hj => (HW2.out.lt j hj).1)); have hw3 : w3.ownsRow X0.heap.size 3 1 v3 pq.length (pq.map vi) := (by rw [HPQ.out, List.length_append, List.map_append]; exact hown3); obtain ⟨a3, k3, rfl, -, -⟩ := owned_liesNI hw3; have HW3 := Lib.hid hw3; have sX3 := bX3.size; have HF3 := Lib.hid (owned_later HF0.out bX3); clear hown3 hw3)
              | (refine step_append_E (by rfl) _ _ (by rfl) w.heap.size (.slice ro n rc) n (ts.flatMap ec) (some ⟨w3.heap.size, 0, none⟩) 1 [(⟨c * d, pq, a3, k3⟩ : E)] (by rfl) (by rfl) (HF3.out.alloc _) (rows_one w3 ⟨c * d, pq, a3, k3⟩) (by simp; omega) (by simp; omega) ?_; intro v4 w4 hown4 hgrow4)))
          obtain ⟨ro4, rc4, rfl, hF4, hI4⟩ := push_one (x := ⟨c * d, pq, a3, k3⟩) HF3.out (HI0.out.later bX3) (own_mono HW3.out hbs) hown4 hgrow4
          have hb4 : Below w.heap.size w w4 := ((hbX.trans (bX3.mono hbs)).alloc (by omega) (.cells #[.int .i64 (c * d), .slice a3 pq.length k3] 37)).grown hgrow4 (by simp; omega) (fun j hj => (HF3.out.lt j hj).1)
          have hg4 : ∀ (b o : Nat) (v : Value), b < X0.heap.size → some b ≠ (Value.slice ro n rc).ownBlock → X0.cell? ⟨b, o, none⟩ = some v → w4.cell? ⟨b, o, none⟩ = some v := fun b o v hlt hne hc => hgrow4.cell (cell_keep (W := X0) (by repeat (first | (with_reducible exact Below.refl _ _) | (with_reducible refine Below.setCell ?_ ?_ _) | (with_reducible refine Below.drew ?_) | (with_reducible refine Below.alloc ?_ ?_ _) | (with_reducible refine Below.trans ?_ (Below.mono bX3 ?_)) | (with_reducible exact bX3.size) | omega | (simp <;> omega) | (simp <;> (have s := bX3.size; omega)) | (have s0 := bX3.size; (try simp at s0); (try simp); omega))) hc) hne
          have y0 := hg4 _ _ _ lb2 hne2 y0
          have y1 := hg4 _ _ _ lb2 hne2 y1
          have HF4 := Lib.hid hF4
          have HI4 := Lib.hid hI4
          have hbs4 := hb4.size
          have hne5 : some b2 ≠ (Value.slice ro4 (n + 1) rc4).ownBlock := fun e => absurd (HF4.out.lt b2 e.symm).1 (by omega)
          have lb2 := World.block_lt_of_cell? w4 _ y0
          have cO := fun W h => opposite_any qa qk q W h HQS.out (by omega)
          have hbA4 : Below w4.heap.size w4 (w4.alloc (.cells #[] 3)).drew := by repeat (first | (with_reducible exact Below.refl _ _) | (with_reducible refine Below.setCell ?_ ?_ _) | (with_reducible refine Below.drew ?_) | (with_reducible refine Below.alloc ?_ ?_ _) | omega | (simp <;> omega))
          have HO4 : Hid ((w4.alloc (.cells #[] 3)).drew.ownsRow w4.heap.size 3 1 (.slice (some ⟨w4.heap.size, 0, none⟩) 0 0) 0 []) := Lib.hid (World.ownsRow_lit w4 #[] 0 (Nat.le_refl _) (by unfold maxLen; omega) (by simp)).drew
          clear hF4 hI4 hown4 hgrow4 hg4 HF3 HF0 HI0 HW2 HW3 HO0 bX2 bX3 sX2 sX3 hbA hbX hbs hne hne2 x0 x1
          go_wp2
          go_region_held3 (fun w' => w'.cell? ⟨b2, o2 + j * 2 + 1, none⟩ = some (.slice qa q.length qk))
            (first
              | (exact hgrow8.cell (cell_keep (W := w4) (by repeat (first | (with_reducible exact Below.refl _ _) | (with_reducible refine Below.setCell ?_ ?_ _) | (with_reducible refine Below.drew ?_) | (with_reducible refine Below.alloc ?_ ?_ _) | (with_reducible refine Below.trans ?_ (Below.mono bY7 ?_)) | (with_reducible exact bY7.size) | omega | (simp <;> omega) | (simp <;> (have s := bY7.size; omega)) | (have s0 := bY7.size; (try simp at s0); (try simp); omega))) y1) hne5)
              | (exact cell_keep (W := w4) (by repeat (first | (with_reducible exact Below.refl _ _) | (with_reducible refine Below.setCell ?_ ?_ _) | (with_reducible refine Below.drew ?_) | (with_reducible refine Below.alloc ?_ ?_ _) | (with_reducible refine Below.trans ?_ (Below.mono bY7 ?_)) | (with_reducible exact bY7.size) | omega | (simp <;> omega) | (simp <;> (have s := bY7.size; omega)) | (have s0 := bY7.size; (try simp at s0); (try simp); omega))) y1)
              | (exact cell_keep (W := w4) (by repeat (first | (with_reducible exact Below.refl _ _) | (with_reducible refine Below.setCell ?_ ?_ _) | (with_reducible refine Below.drew ?_) | (with_reducible refine Below.alloc ?_ ?_ _) | (with_reducible refine Below.trans ?_ (Below.mono bY6 ?_)) | (with_reducible exact bY6.size) | omega | (simp <;> omega) | (simp <;> (have s := bY6.size; omega)) | (have s0 := bY6.size; (try simp at s0); (try simp); omega))) y1)
              | (exact cell_keep (W := w4) (by repeat (first | (with_reducible exact Below.refl _ _) | (with_reducible refine Below.setCell ?_ ?_ _) | (with_reducible refine Below.drew ?_) | (with_reducible refine Below.alloc ?_ ?_ _) | (with_reducible refine Below.trans ?_ (Below.mono bY5 ?_)) | (with_reducible exact bY5.size) | omega | (simp <;> omega) | (simp <;> (have s := bY5.size; omega)) | (have s0 := bY5.size; (try simp at s0); (try simp); omega))) y1)
              | go_keep)
            ((first
              | (refine step_append_ints (by rfl) _ _ (by rfl) w4.heap.size (.slice (some ⟨w4.heap.size, 0, none⟩) 0 0) 0 [] pa pk p (by rfl) (by rfl) HO4.out (HX.out.later (by repeat (first | (with_reducible exact Below.refl _ _) | (with_reducible refine Below.setCell ?_ ?_ _) | (with_reducible refine Below.drew ?_) | (with_reducible refine Below.alloc ?_ ?_ _) | (with_reducible refine Below.trans ?_ (Below.mono hb4 ?_)) | (with_reducible exact hb4.size) | omega | (simp <;> omega) | (simp <;> (have s := hb4.size; omega)) | (have s0 := hb4.size; (try simp at s0); (try simp); omega)))) (by simp) (by omega) ?_; intro v5 w5 hown5 hgrow5; have bY5 : Below w4.heap.size w4 w5 := (Below.grown hbA4 hgrow5 hbA4.size (fun j hj => by simp [Value.ownBlock] at hj; omega)); have hw5 : w5.ownsRow w4.heap.size 3 1 v5 p.length (p.map vi) := (by simpa using hown5); obtain ⟨a5, k5, rfl, -, -⟩ := owned_liesNI hw5; have HW5 := Lib.hid hw5; have sY5 := bY5.size; clear hown5 hw5)
              | ((with_reducible refine (cO _ ?_).mono ?_); (focus (refine HY.out.later ?_; (repeat (first | (with_reducible exact Below.refl _ _) | (with_reducible refine Below.setCell ?_ ?_ _) | (with_reducible refine Below.drew ?_) | (with_reducible refine Below.alloc ?_ ?_ _) | (with_reducible refine Below.trans ?_ (Below.mono bY5 ?_)) | (with_reducible refine Below.trans ?_ (Below.mono hb4 ?_)) | (with_reducible exact bY5.size) | (with_reducible exact hb4.size) | omega | (simp <;> omega) | (simp <;> (have s := bY5.size; omega)) | (simp <;> (have s := hb4.size; omega)) | (have s0 := bY5.size; (try simp at s0); have s1 := hb4.size; (try simp at s1); (try simp); omega))); done)); rintro e w6 ⟨a6, k6, rfl, hl6, hw6⟩; have HL6 := Lib.hid hl6; clear hl6; have bY6 : Below w4.heap.size w4 w6 := (by repeat (first | (with_reducible exact Below.refl _ _) | (with_reducible refine Below.setCell ?_ ?_ _) | (with_reducible refine Below.drew ?_) | (with_reducible refine Below.alloc ?_ ?_ _) | (with_reducible refine Below.trans ?_ (Below.mono hw6 ?_)) | (with_reducible refine Below.trans ?_ (Below.mono bY5 ?_)) | (with_reducible exact hw6.size) | (with_reducible exact bY5.size) | omega | (simp <;> omega) | (simp <;> (have s := hw6.size; omega)) | (simp <;> (have s := bY5.size; omega)) | (have s0 := hw6.size; (try simp at s0); have s1 := bY5.size; (try simp at s1); (try simp); omega))); have sY6 := bY6.size; have HW6 := Lib.hid (owned_later HW5.out hw6))
              | (refine step_append_ints (by rfl) _ _ (by rfl) w4.heap.size (.slice a5 p.length k5) p.length (p.map vi) a6 k6 (opp q) (by rfl) (by rfl) HW6.out HL6.out (by omega) (by rw [opp_len]; omega) ?_; intro v7 w7 hown7 hgrow7; have bY7 : Below w4.heap.size w4 w7 := (bY6.grown hgrow7 sY6 (fun j hj => (HW6.out.lt j hj).1)); have hw7 : w7.ownsRow w4.heap.size 3 1 v7 po.length (po.map vi) := (by rw [HPO.out, List.length_append, List.map_append]; exact hown7); obtain ⟨a7, k7, rfl, -, -⟩ := owned_liesNI hw7; have HW7 := Lib.hid hw7; have sY7 := bY7.size; have HF7 := Lib.hid (owned_later HF4.out bY7); clear hown7 hw7)
              | (refine step_append_E (by rfl) _ _ (by rfl) w.heap.size (.slice ro4 (n + 1) rc4) (n + 1) ((ts ++ [(⟨c * d, pq, a3, k3⟩ : E)]).flatMap ec) (some ⟨w7.heap.size, 0, none⟩) 1 [(⟨c * d, po, a7, k7⟩ : E)] (by rfl) (by rfl) (HF7.out.alloc _) (rows_one w7 ⟨c * d, po, a7, k7⟩) (by simp; omega) (by simp; omega) ?_; intro v8 w8 hown8 hgrow8)))
          obtain ⟨ro8, rc8, rfl, hF8, hI8⟩ := push_one (x := ⟨c * d, po, a7, k7⟩) HF7.out (HI4.out.later bY7) (own_mono HW7.out hbs4) hown8 hgrow8
          have hb8 : Below w.heap.size w w8 := ((hb4.trans (bY7.mono hbs4)).alloc (by omega) (.cells #[.int .i64 (c * d), .slice a7 po.length k7] 37)).grown hgrow8 (by simp; omega) (fun j hj => (HF7.out.lt j hj).1)
          have hD8 := HD0.out.two (by rw [tm_len]; exact hlt) (by rw [tm_len]; exact hjt) (⟨c * d, pq, a3, k3⟩ : E) ⟨c * d, po, a7, k7⟩ c d p q HU.out HV.out ⟨rfl, HPQ.out⟩ ⟨rfl, HPO.out⟩ hp8 hq8 HPS.out HQS.out hF8 hI8
          have HD8 := Lib.hid hD8
          have HN8 : Hid (n + 1 + 1 = i * (2 * m.length) + 2 * (j + 1)) := Lib.hid (by rw [HN.out]; omega)
          clear hD8 hF8 hI8 hown8 hgrow8 HF7 HF4 HI4 HW7 HO4 bY5 bY6 bY7 HD0 HX HY HU HV HPQ HPO HPS HQS hb4 y0 y1 HN cO
          go_wp2
          exact ⟨⟨j + 1, n + 1 + 1, _, ro8, rc8, by omega, HN8, by go_num, rfl, HD8, hb8⟩, by simp [intOf]; omega⟩
        · obtain rfl : m.length = j := by omega
          have hDn : Td wr w.heap.size ro n rc (tm l) (tm m) (i + 1) 0 ts := by
            have h := HD.out
            rw [← tm_len m] at h
            exact h.next (by rw [tm_len]; exact hlt)
          have hNn : n = (i + 1) * (2 * m.length) := by rw [HN.out, Nat.add_mul i 1, Nat.one_mul]
          have HDn := Lib.hid hDn
          have HNn := Lib.hid hNn
          clear hDn hNn HD HN
          go_wp2
          exact ⟨⟨i + 1, n, ts, ro, rc, by omega, HNn.out, by go_num, rfl, HDn, hb⟩, by simp [intOf]; omega⟩
    · obtain rfl : l.length = i := by omega
      have hraw : tm ts = rawP (tm l) (tm m) := by
        have := HD.out.raw0 rfl
        rwa [List.take_of_length_le (by rw [tm_len]; omega)] at this
      have hn2 : n ≤ 3200 := by
        rw [HN0.out]
        have h3 := Nat.mul_le_mul (show l.length ≤ 40 from hl) (show 2 * m.length ≤ 80 by omega)
        omega
      have hF := HD.out.own
      have hlen := HD.out.len
      obtain ⟨a, k, hv, hrow, -⟩ := owned_rowsN ec_len (show wr.ownsRow w.heap.size 37 2 (.slice ro n rc) ts.length (ts.flatMap ec) from by rw [hlen]; exact hF)
      have hT : Trs wr ro ts := ⟨by
        rw [hlen] at hv
        simp only [Value.slice.injEq, true_and] at hv
        rw [hv.1]
        exact hrow.o, HD.out.pi.o⟩
      have cT := told_any ro rc ts wr hT (by omega) (fun e he => by obtain ⟨h1, h2⟩ := HD.out.small e he; exact ⟨by omega, h2⟩)
      rw [hraw, hlen] at cT
      clear hF hv hrow hT hraw HD HN0 hlen
      go_wp2_with (fail)
      refine cT.mono ?_
      rintro e w2 ⟨hr, hw2⟩
      have hb3 := hb.trans (hw2.mono hb.size)
      clear cT hw2
      rcases hr.ex with ⟨a, c, es, rfl, HR⟩ | ⟨rfl, HR⟩
      · clear hr
        go_wp2
        go_ret2
        exact ⟨HR.out, hb3⟩
      · clear hr
        go_wp2
        go_ret2
        exact ⟨HR.out, hb3⟩
end Go.Proofs.Ytjidbajcnomceaa
